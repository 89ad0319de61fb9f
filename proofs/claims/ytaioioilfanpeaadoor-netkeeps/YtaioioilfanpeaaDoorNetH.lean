/- net: New, Room, Len; Send of one. -/
import Derived.Test.YtaioioilfanpeaaDoorNetG
namespace Go.Proofs.YtaioioilfanpeaaDoor
open Go.ChangeShapes Go.WideShapes Go.ChangeAt Go.RowKit
set_option linter.unusedVariables false
set_option linter.unusedSimpArgs false
variable {n0 nb : Nat} {h : Int} {R R' : Nat → Int} {nx : Int} {fv fv' : Value} {L : List W.Fl} {w w' : World}

theorem Nt.setOne (H : Nt n0 nb h R nx fv L w) (k : Nat) (hk : k < 12) (v : Int) : Nt n0 nb h (updI R k v) nx fv L (w.setCell ⟨nb, 1 + k, none⟩ (.int .i64 v)) ∧ Up nb fv fv w (w.setCell ⟨nb, 1 + k, none⟩ (.int .i64 v)) := by
  have hg := gsetCell w nb (1 + k) (.int .i64 v)
  refine ⟨⟨(H.b.set (1 + k) _).congr fun j hj => ?_, H.o.kept hg (by cases e : fv.ownBlock with | none => exact Or.inl rfl | some b => exact Or.inr (fun q => H.ne (by rw [e]; exact q))), H.ne, H.n0⟩, ⟨Gs.of_grown hg (fun b e => Or.inl (by cases e; rfl)), Or.inl rfl⟩⟩
  unfold updV ntF updI
  by_cases e : j = 1 + k
  · subst e
    rw [if_pos rfl, if_neg (by omega), if_pos (by omega), show 1 + k - 1 = k by omega, if_pos rfl]
  · rw [if_neg e]
    by_cases e0 : j = 0
    · rw [if_pos e0, if_pos e0]
    · rw [if_neg e0, if_neg e0]
      by_cases e1 : j < 13
      · rw [if_pos e1, if_pos e1, if_neg (show ¬ j - 1 = k by omega)]
      · rw [if_neg e1, if_neg e1]
def rm0 (h room : Int) (c k : Nat) (j : Nat) : Int := if (j % 4 : Nat) < h ∧ (j / 4 < c ∨ j / 4 = c ∧ j % 4 < k) then room else 0
def rmN (h room : Int) (j : Nat) : Int := if (j % 4 : Nat) < h then room else 0
theorem Nt.congr (H : Nt n0 nb h R nx fv L w) (e : ∀ j, j < 12 → R j = R' j) : Nt n0 nb h R' nx fv L w :=
  ⟨H.b.congr fun j hj => by
    unfold ntF
    by_cases e0 : j = 0
    · rw [if_pos e0, if_pos e0]
    · rw [if_neg e0, if_neg e0]
      by_cases e1 : j < 13
      · rw [if_pos e1, if_pos e1, e (j - 1) (by omega)]
      · rw [if_neg e1, if_neg e1], H.o, H.ne, H.n0⟩
theorem rm0_succ (h room : Int) (c k : Nat) (hc : c < 3) (k4 : k < 4) (hk : (k : Int) < h) (j : Nat) (hj : j < 12) : updI (rm0 h room c k) (c * 4 + k) room j = rm0 h room c (k + 1) j := by
  unfold updI rm0
  by_cases e : j = c * 4 + k
  · rw [if_pos e, if_pos (by omega)]
  · rw [if_neg e]
    by_cases q : ((j % 4 : Nat) : Int) < h ∧ (j / 4 < c ∨ j / 4 = c ∧ j % 4 < k)
    · rw [if_pos q, if_pos (by omega)]
    · rw [if_neg q, if_neg (by omega)]
theorem rm0_next (h room : Int) (c k : Nat) (h4 : h ≤ 4) (hk : (k : Int) = h) (j : Nat) (hj : j < 12) : rm0 h room c k j = rm0 h room (c + 1) 0 j := by
  unfold rm0
  by_cases q : ((j % 4 : Nat) : Int) < h ∧ (j / 4 < c ∨ j / 4 = c ∧ j % 4 < k)
  · rw [if_pos q, if_pos (by omega)]
  · rw [if_neg q, if_neg (by omega)]
theorem rm0_end (h room : Int) (j : Nat) (hj : j < 12) : rm0 h room 3 0 j = rmN h room j := by
  unfold rm0 rmN
  by_cases q : ((j % 4 : Nat) : Int) < h
  · rw [if_pos (by omega), if_pos q]
  · rw [if_neg (by omega), if_neg q]
theorem rmN_ok (h room : Int) (h0 : 0 ≤ room) (h1 : room ≤ 64) : W.Rok (rmN h room) := by
  intro j hj
  unfold rmN
  split <;> omega
theorem nt_new (w : World) (h room : Int) : Nt w.heap.size w.heap.size h (rm0 h room 0 0) 0 (.slice none 0 0) [] (w.alloc (.cells #[.int .i64 h, .int .i64 0, .int .i64 0, .int .i64 0, .int .i64 0, .int .i64 0, .int .i64 0, .int .i64 0, .int .i64 0, .int .i64 0, .int .i64 0, .int .i64 0, .int .i64 0, .int .i64 0, .slice none 0 0] 72)) :=
  ⟨bc_row (heap_alloc_last w _) (fun j hj => by
    have z : ∀ i, rm0 h room 0 0 i = 0 := fun i => by unfold rm0; rw [if_neg (by omega)]
    match j, hj with
    | 0, _ | 13, _ | 14, _ => rfl
    | 1, _ | 2, _ | 3, _ | 4, _ | 5, _ | 6, _ | 7, _ | 8, _ | 9, _ | 10, _ | 11, _ | 12, _ => simp [ntF, z]), ⟨rfl, Or.inl ⟨rfl, rfl⟩⟩, by simp [Value.ownBlock], Nat.le_refl _⟩

set_option maxRecDepth 100000 in
set_option maxHeartbeats 1600000 in
theorem new_ok (h room : Int) (h1 : 1 ≤ h) (h4 : h ≤ 4) (r1 : 1 ≤ room) (r2 : room ≤ 64) (w : World) :
    Calls Tryd.prog 8 #[.int .i64 h, .int .i64 room] w fun e w' => e = .returned (.tuple #[.pointer (some ⟨w.heap.size, 0, none⟩), .nilIface]) ∧ Nt w.heap.size w.heap.size h (rmN h room) 0 (.slice none 0 0) [] w' ∧ Below w.heap.size w w' := by
  go_enter Tryd.func8, Tryd.ntmps8
  go_wp2
  have hN := nt_new w h room
  have hB := below_alloc w (.cells #[.int .i64 h, .int .i64 0, .int .i64 0, .int .i64 0, .int .i64 0, .int .i64 0, .int .i64 0, .int .i64 0, .int .i64 0, .int .i64 0, .int .i64 0, .int .i64 0, .int .i64 0, .int .i64 0, .slice none 0 0] 72)
  have HZ : Hid (_ ∧ _) := ⟨hN, hB⟩
  clear hN hB
  generalize hnb : w.heap.size = nb at *
  generalize World.alloc w _ = W1 at *
  go_loopw [27] (fun i wr => ∃ c : Nat, c ≤ 3 ∧ i = .int .i64 c ∧ Nt nb nb h (rm0 h room c 0) 0 (.slice none 0 0) [] wr ∧ Below nb w wr) (fun i _ => 3 - (intOf i).toNat)
  case atStart => exact ⟨0, by omega, rfl, HZ.out.1, HZ.out.2⟩
  case round =>
    obtain ⟨c, hc, rfl, hN, hB⟩ := hrel
    clear HZ
    by_cases c3 : c < 3
    · have HY : Hid (_ ∧ _) := ⟨hN, hB⟩
      clear hN hB
      go_wp2
      generalize hW2 : wr = W2 at *
      clear hW2
      go_loopw [31] (fun i wr => ∃ k : Nat, k ≤ h ∧ i = .int .i64 k ∧ Nt nb nb h (rm0 h room c k) 0 (.slice none 0 0) [] wr ∧ Below nb w wr) (fun i _ => 4 - (intOf i).toNat)
      case atStart => exact ⟨0, by omega, rfl, HY.out.1, HY.out.2⟩
      case round =>
        obtain ⟨k, hk, rfl, hN, hB⟩ := hrel
        clear HY
        by_cases hkh : (k : Int) < h
        · have k4 : (k : Int) < 4 := by omega
          have c3' : (c : Int) < 3 := by omega
          have cx := hN.cR (c * 4 + k) (by omega)
          rw [← Nat.add_assoc] at cx
          have fx := hN.b.fz (1 + c * 4 + k)
          have hN2 := (hN.setOne (c * 4 + k) (by omega) room).1.congr (rm0_succ h room c k (by omega) (by omega) hkh)
          have hB2 := hB.setCell (p := ⟨nb, 1 + (c * 4 + k), none⟩) (Nat.le_refl _) (.int .i64 room)
          rw [← Nat.add_assoc] at hN2 hB2
          have HX : Hid (_ ∧ _) := ⟨hN2, hB2⟩
          clear hN hB hN2 hB2
          go_wp2
          go_roundw
          case rel => exact ⟨k + 1, by omega, by go_num, HX.out.1, HX.out.2⟩
          case measure => simp [intOf]; omega
        · have HX : Hid (_ ∧ _) := ⟨hN.congr (rm0_next h room c k h4 (by omega)), hB⟩
          clear hN hB
          go_wp2
          go_roundw
          case rel => exact ⟨c + 1, by omega, by go_num, HX.out.1, HX.out.2⟩
          case measure => simp [intOf]; omega
    · obtain rfl : c = 3 := by omega
      have HX : Hid (_ ∧ _) := ⟨hN.congr (rm0_end h room), hB⟩
      clear hN hB
      go_wp2
      exact bodyPost_ret (v := .tuple #[.pointer (some ⟨nb, 0, none⟩), .nilIface]) (by simp [results, Tryd.results8, go_sem]) rfl ⟨by rw [hnb], by rw [hnb]; exact HX.out.1, by rw [hnb]; exact HX.out.2⟩

set_option maxRecDepth 100000 in
set_option maxHeartbeats 1600000 in
theorem new_bad (A : Nat → Addr) (h room : Int) (hb : h < 1 ∨ 4 < h ∨ room < 1 ∨ 64 < room) (w : World) (hS : Sent A w) :
    Calls Tryd.prog 8 #[.int .i64 h, .int .i64 room] w fun e w' => e = .returned (.tuple #[.pointer none, ptr A 0]) ∧ Below w.heap.size w w' := by
  have c0 := hS.cell 0 (by omega)
  clear hS
  have hb' : h < 1 ∨ (1 ≤ h ∧ 4 < h) ∨ (1 ≤ h ∧ h ≤ 4 ∧ room < 1) ∨ (1 ≤ h ∧ h ≤ 4 ∧ 1 ≤ room ∧ 64 < room) := by omega
  clear hb
  rcases hb' with h1 | ⟨h1, h2⟩ | ⟨h1, h2, h3⟩ | ⟨h1, h2, h3, h4⟩
  all_goals
    go_enter Tryd.func8, Tryd.ntmps8
    go_wp2
    go_quiet (fail)
    go_wp2
    exact bodyPost_ret (v := .tuple #[.pointer none, ptr A 0]) (by simp [results, Tryd.results8, go_sem, ptr]) rfl ⟨rfl, below_drewN (Below.refl _ _) _⟩

theorem len_any (H : Nt n0 nb h R nx fv L w) : Calls Tryd.prog 18 #[.pointer (some ⟨nb, 0, none⟩)] w fun e w' => e = .returned (.int .i64 L.length) ∧ w = w' := by
  have c := H.cF
  have q : ∃ a cap, fv = .slice a L.length cap ∧ L.length ≤ cap := by
    rcases H.o.2 with ⟨h1, h2⟩ | ⟨g, cap, cur, h1, _, _, h2, _⟩
    · exact ⟨none, 0, by rw [h1, h2], by omega⟩
    · exact ⟨_, cap, h1, h2⟩
  obtain ⟨a, cap, rfl, hc⟩ := q
  clear H
  generalize L.length = n at *
  go_enter Tryd.func18, Tryd.ntmps18
  go_wp2
  go_ret
  exact ⟨rfl, rfl⟩
def roomV (h : Int) (R : Nat → Int) (f t c : Int) : Int := bif W.endB h f t c then R (c.toNat * 4 + (W.endH h f t c).toNat) else 0

set_option maxHeartbeats 1600000 in
theorem room_any (H : Nt n0 nb h R nx fv L w) (h4 : h ≤ 4) (f t c : Int) : Calls Tryd.prog 21 #[.pointer (some ⟨nb, 0, none⟩), .int .i64 f, .int .i64 t, .int .i64 c] w fun e w' => e = .returned (.int .i64 (roomV h R f t c)) ∧ w = w' := by
  have HC : Hid (_) := H.c0
  have HR : Hid (∀ j, j < 12 → w.cell? ⟨nb, 1 + j, none⟩ = some (.int .i64 (R j))) := H.cR
  clear H
  unfold roomV
  cases hb : W.endB h f t c
  · have HB : Hid (W.endB h f t c = false) := hb
    generalize hx : W.endH h f t c = x at *
    have HX : Hid (W.endH h f t c = x) := hx
    clear hx hb
    go_enter Tryd.func21, Tryd.ntmps21
    go_wp2_with (first
      | (go_at_call 35; refine (end_any nb h f t c _ HC.out).mono ?_; rintro e w' ⟨rfl, rfl⟩; rw [HB.out, HX.out]))
    go_ret
    exact ⟨rfl, rfl⟩
  · have hr := W.endH_rg _ _ _ _ hb
    have hc := W.endB_c _ _ _ _ hb
    have HB : Hid (W.endB h f t c = true) := hb
    obtain ⟨x, hx⟩ : ∃ x : Nat, W.endH h f t c = (x : Int) := ⟨(W.endH h f t c).toNat, by omega⟩
    obtain ⟨y, hy⟩ : ∃ y : Nat, c = (y : Int) := ⟨c.toNat, by omega⟩
    have HX : Hid (W.endH h f t c = x) := hx
    rw [hx] at hr ⊢
    have e1 : (x : Int).toNat = x := by simp
    have e2 : c.toNat = y := by omega
    rw [e1, e2]
    have cx := HR.out (y * 4 + x) (by omega)
    rw [← Nat.add_assoc] at cx
    have y3 : (y : Int) < 3 := by omega
    have x4 : (x : Int) < 4 := by omega
    have HY : Hid (c = y) := hy
    clear hx hb e1 e2 hc hy
    generalize R (y * 4 + x) = v at *
    have HE : Hid (W.endH h f t y = x ∧ W.endB h f t y = true) := by rw [← HY.out]; exact ⟨HX.out, HB.out⟩
    have hh := HY.out
    clear HX HB HY
    subst hh
    go_enter Tryd.func21, Tryd.ntmps21
    go_wp2_with (first
      | (go_at_call 35; refine (end_any nb h f t y _ HC.out).mono ?_; rintro e w' ⟨rfl, rfl⟩; rw [HE.out.1, HE.out.2]))
    go_ret
    exact ⟨rfl, rfl⟩

def bsM (n : Nat) (l : Array (Nat × Value)) : Sem Value := Instr.buildSlice 34 n l
theorem bsM_eq (n : Nat) (l : Array (Nat × Value)) : Instr.buildSlice 34 n l = bsM n l := rfl
theorem bsM_any (m : W.Mg) (w : World) : (bsM 1 #[(0, mgV m)]).run Tryd.prog w = .ok (.slice (some ⟨w.heap.size, 0, none⟩) 1 1) (w.alloc (.cells (mgL m).toArray 47)) := by kernel_rfl
theorem ms_one (m : W.Mg) (w : World) : Ms ⟨some ⟨w.heap.size, 0, none⟩, 1, 1⟩ [m] (w.alloc (.cells (mgL m).toArray 47)) :=
  ⟨rfl, by show 1 ≤ 4096; decide, by show 1 ≤ 1; decide, fun _ => ⟨w.heap.size, 0, rfl, by simp, fun j x hx => by
    match j, hx with
    | 0, hx =>
      obtain rfl : m = x := by simpa using hx
      exact range_new w _ _
    | j + 1, hx => simp at hx⟩⟩
theorem send1_ok (h4 : h ≤ 4) (hR : W.Rok R) (x0 : 0 ≤ nx) (x1 : nx ≤ 1000000) (hL : L.length ≤ 8000) (m : W.Mg) (H : Nt n0 nb h R nx fv L w) (B : Nat) (hB : w.heap.size = B) (ha : W.adm h R m = none) :
    Calls Tryd.prog 11 #[.pointer (some ⟨nb, 0, none⟩), .slice (some ⟨B, 0, none⟩) 1 1] (w.alloc (.cells (mgL m).toArray 47)) fun e w' => e = .returned .nilIface ∧ ∃ fv', Nt n0 nb h (W.dec h R m) (nx + 1) fv' (L ++ [⟨nx, m⟩]) w' ∧ Up nb fv fv' w w' := by
  subst hB
  have hb := below_alloc w (.cells (mgL m).toArray 47)
  refine (send_ok n0 nb h h4 R hR nx x0 x1 fv L ⟨some ⟨w.heap.size, 0, none⟩, 1, 1⟩ [m] (by simp; omega) _ (H.below hb) (ms_one m w) (fun b o e => ?_) (by simp [W.ers, ha])).mono fun e w' ⟨h1, f', h2, h3⟩ => ⟨h1, f', h2, (Up.of_below hb).trans h3⟩
  cases e
  refine ⟨fun e => ?_, fun e => ?_⟩
  · have := H.b.lt; omega
  · have := (H.fb _ e).2; omega
theorem send1_bad (A : Nat → Addr) (h4 : h ≤ 4) (hR : W.Rok R) (m : W.Mg) (H : Nt n0 nb h R nx fv L w) (B : Nat) (hB : w.heap.size = B) (hS : Sent A w) (p : Nat) (ha : W.adm h R m = some p) :
    Calls Tryd.prog 11 #[.pointer (some ⟨nb, 0, none⟩), .slice (some ⟨B, 0, none⟩) 1 1] (w.alloc (.cells (mgL m).toArray 47)) fun e w' => (∃ q, e = .returned (.iface 78 (.pointer (some ⟨q, 0, none⟩))) ∧ w'.heap[q]? = some (.cells #[.int .i64 0, ptr A (perm p)] 80)) ∧ Below w.heap.size w w' := by
  subst hB
  have hb := below_alloc w (.cells (mgL m).toArray 47)
  exact (send_bad A n0 nb h h4 R hR nx fv L ⟨some ⟨w.heap.size, 0, none⟩, 1, 1⟩ [m] 0 p _ (H.below hb) (ms_one m w) (hS.below hb) (by simp [W.ers, ha])).mono fun e w' ⟨h1, h2⟩ => ⟨h1, hb.trans (h2.mono hb.size)⟩
end Go.Proofs.YtaioioilfanpeaaDoor
