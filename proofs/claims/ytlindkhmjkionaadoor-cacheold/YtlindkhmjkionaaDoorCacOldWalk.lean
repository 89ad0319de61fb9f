/- CacheOld: the walk. -/
import Derived.Test.YtlindkhmjkionaaDoorCacJ
namespace Go.Proofs.YtlindkhmjkionaaDoor
open Go.ChangeShapes Go.WideShapes Go.ChangeAt Go.RowKit
set_option linter.unusedVariables false
set_option linter.unusedSimpArgs false
attribute [local go_sem ↓] ldE_eq stE_eq bdE_eq bsE_eq
variable {n0 cb sb K : Nat} {ways : Int} {sv sv' sv'' : Nat → Value} {S S' : Nat → List W.En} {w w' w'' : World}

def nilI (n : Nat) : Array Value := (List.replicate n (.int .i64 0)).toArray
def mkI (x y : Value) : Sem Value := Instr.makeSlice 23 x y
theorem mkI_eq (x y : Value) : Instr.makeSlice 23 x y = mkI x y := rfl
attribute [local go_sem ↓] mkI_eq
theorem made_ints0 (n : Nat) (h : n = 1 ∨ n = 2 ∨ n = 3 ∨ n = 4 ∨ n = 5 ∨ n = 6 ∨ n = 7 ∨ n = 8) (w : World) : (Instr.makeSlice 23 (.int .i64 (n : Int)) (.int .i64 (n : Int))).run Tryd.prog w = .ok (.slice (some ⟨w.heap.size, 0, none⟩) n n) (w.alloc (.cells (nilI n) 3)) := by
  rcases h with rfl | rfl | rfl | rfl | rfl | rfl | rfl | rfl <;> kernel_rfl
theorem made_ints (n : Nat) (h1 : 1 ≤ n) (h8 : n ≤ 8) (w : World) : (mkI (.int .i64 (n : Int)) (.int .i64 (n : Int))).run Tryd.prog w = .ok (.slice (some ⟨w.heap.size, 0, none⟩) n n) (w.alloc (.cells (nilI n) 3)) := made_ints0 n (by omega) w
theorem bc_ints (w : World) (n : Nat) (T : TypeId) : Bc w.heap.size n (fun _ => .int .i64 0) (w.alloc (.cells (nilI n) T)) := bc_row (heap_alloc_last w _) (fun j hj => by simp [nilI, hj])
theorem bc_set {b n : Nat} {la : Nat → Int} (h : Bc b n (fun j => .int .i64 (la j)) w) (k : Nat) (v : Int) : Bc b n (fun j => .int .i64 (updI la k v j)) (w.setCell ⟨b, k, none⟩ (.int .i64 v)) := (h.set k (.int .i64 v)).congr fun j hj => by
  unfold updV updI
  by_cases e : j = k <;> simp [e]
theorem Qo.set {w0 : World} {lb n : Nat} {ks : List Nat} {la : Nat → Int} {v v' : Int} (h : Qo w0 n0 cb sb lb n ks la v w) (k : Nat) (u : Int) {js : List Nat} (he : ks = js) (ho : Od n (updI la k u) v' js) : Qo w0 n0 cb sb lb n js (updI la k u) v' (w.setCell ⟨lb, k, none⟩ (.int .i64 u)) := by
  subst he
  obtain ⟨s, h1, h2⟩ := h.c
  exact ⟨⟨s, h1.oth (gsetCell w lb k _) h2 h.lc, h2⟩, bc_set h.l k u, h.b.setCell h.hl _, ho, h.h0, h.hl, h.lc⟩
/-- The same, but for the list's order, where the last use is not told yet. -/
structure Qp (w0 : World) (n0 cb sb lb n : Nat) (ks : List Nat) (la : Nat → Int) (w : World) : Prop where
  c : ∃ sv, Ct n0 cb sb 4 n sv (Os ks) w ∧ Apt sb 4 sv lb
  l : Bc lb n (fun j => .int .i64 (la j)) w
  b : Below w0.heap.size w0 w
  h0 : w0.heap.size ≤ n0
  hl : w0.heap.size ≤ lb
  lc : lb ≠ cb
theorem Qp.set {w0 : World} {lb n : Nat} {ks : List Nat} {la : Nat → Int} {v' : Int} (h : Qp w0 n0 cb sb lb n ks la w) (k : Nat) (u : Int) (ho : Od n (updI la k u) v' ks) : Qo w0 n0 cb sb lb n ks (updI la k u) v' (w.setCell ⟨lb, k, none⟩ (.int .i64 u)) := by
  obtain ⟨s, h1, h2⟩ := h.c
  exact ⟨⟨s, h1.oth (gsetCell w lb k _) h2 h.lc, h2⟩, bc_set h.l k u, h.b.setCell h.hl _, ho, h.h0, h.hl, h.lc⟩
theorem Qo.call' {w0 : World} {lb n : Nat} {ks js : List Nat} {la : Nat → Int} {v : Int} (h : Qo w0 n0 cb sb lb n ks la v w) (sv sv' : Nat → Value) (hc : Ct n0 cb sb 4 n sv (Os ks) w) (ha : Apt sb 4 sv lb) (hc' : Ct n0 cb sb 4 n sv' (Os js) w') (hu : Cu sb 4 sv sv' w w') : Qp w0 n0 cb sb lb n js la w' :=
  ⟨⟨sv', hc', hu.apt h.l.lt ha⟩, hu.bc h.l ha, h.b.trans (hu.below hc _ h.h0 h.b.size), h.h0, h.hl, h.lc⟩

theorem pt_put (n i : Nat) (ks : List Nat) (hl : ks.length < n) : W.pt 4 (n : Int) (Os ks) (enk i) = 0 := by
  unfold W.pt
  rw [if_neg (by rw [enk_l]; omega), if_neg (by show ¬ ((1 : Int) < 1 ∨ 4 < (1 : Int)); omega), if_neg]
  have : W.room 4 (n : Int) (Os ks) (enk i).l = true := by
    unfold W.room
    rw [if_neg (by rw [enk_l]; omega), enk_l, ix4, os_0, List.length_map, decide_eq_true (by omega)]
    rfl
  rw [this]
  simp
theorem vic_nil (k : Nat) (ks : List Nat) (n : Nat) : W.vic (W.st 4 (Os (k :: ks)) (4 * (n : Int))) [] = some (enk k) := by
  unfold W.st
  rw [if_neg (by omega), ix4, os_0]
  rfl
theorem vic_none (n : Nat) : W.vic (W.st 4 (Os []) (4 * (n : Int))) [] = none := by
  unfold W.st
  rw [if_neg (by omega), ix4, os_0]
  rfl
theorem bdE_1 (x : Int) (k : Nat) (h : x = 4 * (k : Int)) (w : World) : (bdE #[(0, .int .i64 x), (1, .int .i64 1)]).run Tryd.prog w = .ok (enV (enk k)) w := by
  subst h
  exact bdE_2 _ 1 w

set_option maxRecDepth 10000 in
set_option maxHeartbeats 1600000 in
theorem old_long (A : Nat → Addr) (wy : Int) (y0 : -9223372036854775808 ≤ wy) (y1 : wy ≤ 9223372036854775807) (a1 : Option Addr) (M c1 : Nat) (h1 : 60 < M) (hm : M ≤ maxLen) (w : World) (hS : Sent A w) :
    Calls Tryd.prog 4 #[.int .i64 wy, .slice a1 M c1] w fun e w' => e = .returned (.bool true) ∧ Below w.heap.size w w' := by
  have HS : Hid (Sent A w) := hS
  unfold maxLen at hm
  have g1 : (60 : Int) < M := by omega
  have HNum : Hid (∀ w', Calls Tryd.prog 26 #[.int .i64 wy, .int .i64 8] w' fun z w'' => z = .returned (.int .i64 (wy % 8)) ∧ w' = w'') := fun w' => number_any wy 8 y0 y1 (by decide) (by decide) w'
  have m0 : 0 ≤ wy % 8 := by omega
  have m8 : wy % 8 ≤ 7 := by omega
  generalize wy % 8 = m at *
  clear hS
  go_enter Tryd.func4, Tryd.ntmps4
  go_wp2_with (fail)
  refine (first17_any A w HS.out).mono ?_
  rintro e w1 ⟨rfl, hb1⟩
  go_wp2_with (fail)
  refine (HNum.out _).mono ?_
  rintro e w2 ⟨rfl, rfl⟩
  go_wp2
  go_ret
  exact ⟨rfl, hb1⟩

set_option maxRecDepth 10000 in
set_option maxHeartbeats 1600000 in
theorem old_some (A : Nat → Addr) (wy : Int) (y0 : -9223372036854775808 ≤ wy) (y1 : wy ≤ 9223372036854775807) (ol : W.Sl) (os : Nat → Int) (h1 : ol.n ≤ 60) (w : World) (hO : 0 < ol.n → ∃ b o, ol.a = some ⟨b, o, none⟩ ∧ b < w.heap.size ∧ ∀ j, j < ol.n → w.cell? ⟨b, o + j, none⟩ = some (.int .i64 (os j)) ∧ -9223372036854775808 ≤ os j ∧ os j ≤ 9223372036854775807) (hS : Sent A w) :
    Calls Tryd.prog 4 #[.int .i64 wy, slV ol] w fun e w' => e = .returned (.bool true) ∧ Below w.heap.size w w' := by
  obtain ⟨a1, M, c1⟩ := ol
  have HS : Hid (Sent A w) := hS
  have HO : Hid (0 < M → ∃ b o, a1 = some ⟨b, o, none⟩ ∧ b < w.heap.size ∧ ∀ j, j < M → w.cell? ⟨b, o + j, none⟩ = some (.int .i64 (os j)) ∧ -9223372036854775808 ≤ os j ∧ os j ≤ 9223372036854775807) := hO
  dsimp only at h1
  clear hS hO
  unfold slV
  have g1 : (M : Int) ≤ 60 := by omega
  have HNum : Hid (∀ w', Calls Tryd.prog 26 #[.int .i64 wy, .int .i64 8] w' fun z w'' => z = .returned (.int .i64 (wy % 8)) ∧ w' = w'') := fun w' => number_any wy 8 y0 y1 (by decide) (by decide) w'
  obtain ⟨n, hn⟩ : ∃ n : Nat, wy % 8 + 1 = (n : Int) := ⟨(wy % 8 + 1).toNat, by omega⟩
  have n1 : 1 ≤ n := by omega
  have n8 : n ≤ 8 := by omega
  obtain ⟨m, hm⟩ : ∃ m : Int, wy % 8 = m := ⟨_, rfl⟩
  rw [hm] at HNum hn
  have hmn : Hid (m + 1 = (n : Int)) := hn
  clear hm hn
  go_enter Tryd.func4, Tryd.ntmps4
  go_wp2_with (fail)
  refine (first17_any A w HS.out).mono ?_
  rintro e w1 ⟨rfl, hb1⟩
  have m0 : 0 ≤ m := by have := hmn.out; omega
  have m8 : m ≤ 7 := by have := hmn.out; omega
  go_wp2_with (fail)
  refine (HNum.out _).mono ?_
  rintro e w2 ⟨rfl, rfl⟩
  have HB1 : Hid (Below w.heap.size w w1) := hb1
  clear hb1 HNum
  go_wp2_with (fail)
  rw [hmn.out]
  clear m0 m8
  refine (new_ok 4 (by decide) n (by omega) (by omega) w1).mono ?_
  rintro e w3 ⟨rfl, hN, hB⟩
  have hmk := made_ints n n1 n8
  have HN : Hid (_ ∧ _) := ⟨hN, HB1.out.trans (hB.mono HB1.out.size)⟩
  have HZ : Hid (w.heap.size ≤ w1.heap.size) := HB1.out.size
  clear hN hB HB1
  go_wp2
  have hba := below_alloc w3 (.cells (nilI n) 3)
  have HQ0 : Hid (Qo w w1.heap.size (w1.heap.size + 1) w1.heap.size w3.heap.size n [] (fun _ => 0) 0 (w3.alloc (.cells (nilI n) 3))) := by
    have hsz := HN.out.1.b.lt
    refine ⟨⟨nilV, ?_, HN.out.1.apt_new (Nat.le_refl _)⟩, bc_ints w3 n _, HN.out.2.trans (hba.mono HN.out.2.size), ⟨List.nodup_nil, by simp, List.Pairwise.nil, by simp⟩, HZ.out, HN.out.2.size, by omega⟩
    rw [os_nil]
    exact HN.out.1.below hba
  clear hba hmk HN HZ
  generalize w3.heap.size = lb at *
  generalize World.alloc w3 _ = W3 at *
  generalize w1.heap.size + 1 = cb at *
  generalize w1.heap.size = sb at *
  go_loopw [9] (fun i wr => ∃ (j : Nat) (la : Nat → Int), j ≤ n ∧ i = .int .i64 j ∧ Qo w sb cb sb lb n (List.range j) la (j : Int) wr) (fun i _ => n - (intOf i).toNat)
  case atStart => exact ⟨0, _, by omega, rfl, HQ0.out⟩
  case round =>
    obtain ⟨j, la, hj, rfl, hQ⟩ := hrel
    have HQ : Hid (Qo w sb cb sb lb n (List.range j) la (j : Int) wr) := hQ
    clear hQ HQ0
    have n8' : (n : Int) ≤ 8 := by omega
    by_cases hlt : j < n
    · have hjn : (j : Int) < n := by omega
      have hbd := bdE_1 (4 * (j : Int)) j rfl
      obtain ⟨s, hc, ha⟩ := HQ.out.c
      have HP : Hid (Calls _ _ _ _ _) := put_ok hc (by decide) (os_len (by simp; omega)) (enk j) (pt_put n j (List.range j) (by simpa using hlt))
      rw [enk_l, ix4, os_0, lst_map, os_upd, List.erase_of_not_mem (by simp), ← List.range_succ] at HP
      have HC : Hid (_ ∧ _) := ⟨hc, ha⟩
      clear hc ha
      go_wp2_with (fail)
      refine HP.out.mono ?_
      rintro e w5 ⟨rfl, sv5, hC5, hU5⟩
      have HP5 : Hid (Qp w sb cb sb lb n (List.range (j + 1)) la w5) := HQ.out.call' s sv5 HC.out.1 HC.out.2 hC5 hU5
      clear hC5 hU5 hbd
      have c5 := HP5.out.l.c j hlt
      have f5 := HP5.out.l.fz j
      have hO : Od n (updI la j j) ((j : Int) + 1) (List.range (j + 1)) := by
        have := HQ.out.o.use j hlt (Int.le_refl _)
        rw [List.erase_of_not_mem (by simp), ← List.range_succ] at this
        exact this
      have HS6 : Hid (_) := HP5.out.set j j hO
      clear hO HP HQ HC HP5
      go_wp2
      generalize World.setCell w5 _ _ = W6 at *
      go_roundw
      case rel => exact ⟨j + 1, _, by omega, by go_num, by rw [Int.natCast_add]; exact HS6.out⟩
      case measure => simp [intOf]; omega
    · obtain rfl : j = n := by omega
      have HQ1 : Hid (∃ la, Qo w sb cb sb lb j (List.range j) la (j : Int) wr) := ⟨la, HQ.out⟩
      have n8x : j ≤ 8 := n8
      have n8y : (j : Int) ≤ 8 := n8'
      clear HQ hlt hj n8 n8'
      have HJ : Hid (List.range j = List.range j) := rfl
      go_wp2
      generalize hW4 : wr = W4 at *
      clear hW4
      go_loopw [10] (fun i wr => ∃ (p : Nat) (ks : List Nat) (la : Nat → Int), p ≤ M ∧ i = .int .i64 p ∧ ks.length = j ∧ (∀ k, k < j → k ∈ ks) ∧ Qo w sb cb sb lb j ks la ((j : Int) + p) wr) (fun i _ => M - (intOf i).toNat)
      case atStart =>
        obtain ⟨la, hQ⟩ := HQ1.out
        exact ⟨0, List.range j, la, by omega, rfl, by simp, fun k hk => List.mem_range.2 hk, by simpa using hQ⟩
      case round =>
        obtain ⟨p, ks, la, hp, rfl, hlen, hall, hQ⟩ := hrel
        have HQ : Hid (Qo w sb cb sb lb j ks la ((j : Int) + p) wr) := hQ
        have HA : Hid (ks.length = j ∧ ∀ k, k < j → k ∈ ks) := ⟨hlen, hall⟩
        clear hQ hlen hall HQ1
        by_cases hlt : p < M
        · have hpM : (p : Int) < M := by omega
          obtain ⟨b, o, rfl, hbl, hc⟩ := HO.out (by omega)
          obtain ⟨hcp, q0, q1⟩ := hc p hlt
          have cp : wr.cell? ⟨b, o + p, none⟩ = some (.int .i64 (os p)) := (HQ.out.b.cell (p := ⟨b, o + p, none⟩) hbl).trans hcp
          generalize os p = x at *
          have HNum : Hid (Calls _ _ _ _ _) := number_any x (j : Int) q0 q1 (by omega) (by omega) wr
          obtain ⟨k, hk⟩ : ∃ k : Nat, x % (j : Int) = (k : Int) := ⟨(x % (j : Int)).toNat, by have := Int.emod_nonneg x (show (j : Int) ≠ 0 by omega); omega⟩
          have hkj : k < j := by have := Int.emod_lt_of_pos x (show (0 : Int) < j by omega); omega
          rw [hk] at HNum
          obtain ⟨s, hc, ha⟩ := HQ.out.c
          have HU : Hid (Calls _ _ _ _ _) := use_any hc (by decide) (os_len (by rw [HA.out.1]; omega)) (4 * (k : Int)) (by omega)
          rw [ix4, os_0, use_map (HA.out.2 k hkj), has_map, decide_eq_true (HA.out.2 k hkj), os_upd] at HU
          have HC : Hid (_ ∧ _) := ⟨hc, ha⟩
          have hkj' : (k : Int) < j := by omega
          clear hc ha hk hcp q0 q1
          go_wp2_with (fail)
          refine HNum.out.mono ?_
          rintro e w5 ⟨rfl, rfl⟩
          go_wp2_with (fail)
          refine HU.out.mono ?_
          rintro e w6 ⟨rfl, sv6, hC6, hU6⟩
          have HP6 : Hid (Qp w sb cb sb lb j (ks.erase k ++ [k]) la w6) := HQ.out.call' s sv6 HC.out.1 HC.out.2 hC6 hU6
          have c6 := HP6.out.l.c k hkj
          have f6 := HP6.out.l.fz k
          have hO : Od j (updI la k ((j : Int) + p)) ((j : Int) + p + 1) (ks.erase k ++ [k]) := HQ.out.o.use k hkj (Int.le_refl _)
          have HS7 : Hid (_) := HP6.out.set k ((j : Int) + p) hO
          have HA7 : Hid ((ks.erase k ++ [k]).length = j ∧ ∀ i, i < j → i ∈ ks.erase k ++ [k]) := by
            refine ⟨?_, fun i hi => ?_⟩
            · rw [List.length_append, List.length_erase_of_mem (HA.out.2 k hkj), HA.out.1]
              simp
              omega
            · by_cases e : i = k
              · subst e; simp
              · exact List.mem_append_left _ ((List.mem_erase_of_ne e).2 (HA.out.2 i hi))
          clear hC6 hU6 hO HU HNum HC HP6 cp
          go_wp2
          generalize World.setCell w6 _ _ = W7 at *
          go_roundw
          case rel => exact ⟨p + 1, _, _, by omega, by go_num, HA7.out.1, HA7.out.2, by rw [show (j : Int) + ((p + 1 : Nat) : Int) = (j : Int) + p + 1 by omega]; exact HS7.out⟩
          case measure => simp [intOf]; omega
        · obtain rfl : p = M := by omega
          have HQ2 : Hid (∃ la v, Qo w sb cb sb lb j ks la v wr) := ⟨la, _, HQ.out⟩
          clear HQ hlt hp
          go_wp2
          generalize hW5 : wr = W5 at *
          clear hW5
          go_loopw [12] (fun i wr => ∃ (p : Nat) (ks : List Nat) (la : Nat → Int) (v : Int), p ≤ j ∧ i = .int .i64 p ∧ ks.length + p = j ∧ Qo w sb cb sb lb j ks la v wr) (fun i _ => j - (intOf i).toNat)
          case atStart =>
            obtain ⟨la, v, hQ⟩ := HQ2.out
            exact ⟨0, ks, la, v, by omega, rfl, HA.out.1, hQ⟩
          case round =>
            obtain ⟨p, ks, la, v, hp, rfl, hlen, hQ⟩ := hrel
            have HQ : Hid (Qo w sb cb sb lb j ks la v wr) := hQ
            clear hQ HQ2 HA
            by_cases hlt : p < j
            · have hpj : (p : Int) < j := by omega
              obtain ⟨k, t, rfl⟩ : ∃ k t, ks = k :: t := by
                cases ks with
                | nil => simp at hlen; omega
                | cons k t => exact ⟨k, t, rfl⟩
              have hkj : k < j := HQ.out.o.lt k (by simp)
              have hkj' : (k : Int) < j := by omega
              have HL8 : Hid ((k :: t).length ≤ 8) := by show (k :: t).length ≤ 8; omega
              obtain ⟨s, hc, ha⟩ := HQ.out.c
              have HV : Hid (Calls _ _ _ _ _) := victim_any ⟨none, 0, 0⟩ [] hc (by decide) (os_len HL8.out) (4 * (j : Int)) (li_nil wr)
              rw [vic_nil] at HV
              unfold slV at HV
              have hg : (some (enk k)).getD W.en0 = enk k := rfl
              rw [hg] at HV
              have hg2 : (some (enk k)).isSome = true := rfl
              rw [hg2] at HV
              have hst := fun w => stE_new w (enk k) z6 rfl
              clear hc ha hg hg2
              go_wp2_with (fail)
              refine HV.out.mono ?_
              rintro e w5 ⟨rfl, hb5⟩
              have hba := below_alloc w5 (.cells (enL (enk k)).toArray 37)
              have hE5 := enAt_new w5 (enk k)
              have HQ5 : Hid (Qo w sb cb sb lb j (k :: t) la v (w5.alloc (.cells (enL (enk k)).toArray 37)) ∧ EnAt w5.heap.size (enk k) (w5.alloc (.cells (enL (enk k)).toArray 37))) := ⟨HQ.out.below (hb5.trans (hba.mono hb5.size)), hE5⟩
              have HVA : Hid (∀ s, Ct sb cb sb 4 j s (Os (k :: t)) wr → Apt sb 4 s w5.heap.size) := fun s hc => hc.apt_new hb5.size
              have c5 : (w5.alloc (.cells (enL (enk k)).toArray 37)).cell? ⟨w5.heap.size, 0, none⟩ = some (.int .i64 (4 * (k : Int))) := hE5.cAt 0 (by decide)
              have hq4 : 4 * (k : Int) / 4 = (k : Int) := by omega
              clear hb5 hba hE5 HV HQ
              go_wp2
              clear c5
              generalize hvb : w5.heap.size = vb at *
              generalize World.alloc w5 _ = W6 at *
              go_loopw [16] (fun i wr => ∃ (q : Nat), q ≤ j ∧ i = .int .i64 q ∧ Qo w sb cb sb lb j (k :: t) la v wr ∧ EnAt vb (enk k) wr) (fun i _ => j - (intOf i).toNat)
              case atStart => exact ⟨0, by omega, rfl, HQ5.out.1, HQ5.out.2⟩
              case round =>
                obtain ⟨q, hq, rfl, hQ, hE⟩ := hrel
                have HQ6 : Hid (Qo w sb cb sb lb j (k :: t) la v wr ∧ EnAt vb (enk k) wr) := ⟨hQ, hE⟩
                clear hQ hE HQ5
                by_cases hltq : q < j
                · have hqj : (q : Int) < j := by omega
                  obtain ⟨s, hc, ha⟩ := HQ6.out.1.c
                  have hst4 : W.st 4 (Os (k :: t)) (4 * (q : Int)) = (k :: t).map enk := by
                    unfold W.st
                    rw [if_neg (by omega), ix4, os_0]
                  have HF : Hid (Calls _ _ _ _ _) := find_any hc (by decide) (os_len HL8.out) (4 * (q : Int))
                  rw [hst4, has_map] at HF
                  generalize W.gt ((k :: t).map enk) (4 * (q : Int)) = y at *
                  have hsty := fun w => stE_new w y z6 rfl
                  clear hc ha hst4
                  by_cases hin : q ∈ k :: t
                  · have hle : la k ≤ la q := HQ6.out.1.o.head q hin
                    rw [decide_eq_true hin] at HF
                    clear hin
                    go_wp2_with (fail)
                    refine HF.out.mono ?_
                    rintro e w7 ⟨rfl, hb7⟩
                    have hba := below_alloc w7 (.cells (enL y).toArray 37)
                    have HQ7 : Hid (Qo w sb cb sb lb j (k :: t) la v (w7.alloc (.cells (enL y).toArray 37)) ∧ EnAt vb (enk k) (w7.alloc (.cells (enL y).toArray 37))) := ⟨HQ6.out.1.below (hb7.trans (hba.mono hb7.size)), HQ6.out.2.below (hb7.trans (hba.mono hb7.size))⟩
                    clear hb7 hba HF HQ6
                    have cq := HQ7.out.1.l.c q hltq
                    have ck := HQ7.out.1.l.c k hkj
                    have hlt' : ¬ la q < la k := by omega
                    have hltd : decide (la q < la k) = false := decide_eq_false hlt'
                    go_wp2_with (fail)
                    generalize World.alloc w7 _ = W8 at *
                    go_quiet (fail)
                    go_wp2
                    go_roundw
                    case rel => exact ⟨q + 1, by omega, by go_num, HQ7.out.1.below (below_drewN (Below.refl _ _) _), HQ7.out.2.below (below_drewN (Below.refl _ _) _)⟩
                    case measure => simp [intOf]; omega
                  · rw [decide_eq_false hin] at HF
                    clear hin
                    go_wp2_with (fail)
                    refine HF.out.mono ?_
                    rintro e w7 ⟨rfl, hb7⟩
                    have hba := below_alloc w7 (.cells (enL y).toArray 37)
                    have HQ7 : Hid (Qo w sb cb sb lb j (k :: t) la v (w7.alloc (.cells (enL y).toArray 37)) ∧ EnAt vb (enk k) (w7.alloc (.cells (enL y).toArray 37))) := ⟨HQ6.out.1.below (hb7.trans (hba.mono hb7.size)), HQ6.out.2.below (hb7.trans (hba.mono hb7.size))⟩
                    clear hb7 hba HF HQ6
                    go_wp2_with (fail)
                    generalize World.alloc w7 _ = W8 at *
                    go_quiet (fail)
                    go_wp2
                    go_roundw
                    case rel => exact ⟨q + 1, by omega, by go_num, HQ7.out.1.below (below_drewN (Below.refl _ _) _), HQ7.out.2.below (below_drewN (Below.refl _ _) _)⟩
                    case measure => simp [intOf]; omega
                · obtain rfl : q = j := by omega
                  have cv : wr.cell? ⟨vb, 0, none⟩ = some (.int .i64 (4 * (k : Int))) := HQ6.out.2.cAt 0 (by decide)
                  obtain ⟨s, hc, ha⟩ := HQ6.out.1.c
                  have HD : Hid (Calls _ _ _ _ _) := drop_any hc (by decide) (os_len HL8.out) (4 * (k : Int)) (by omega)
                  rw [ix4, os_0, has_map, drp_map, List.erase_cons_head, os_upd, decide_eq_true (List.mem_cons_self)] at HD
                  have HC : Hid (_ ∧ _) := ⟨hc, ha⟩
                  clear hc ha
                  go_wp2_with (fail)
                  refine HD.out.mono ?_
                  rintro e w7 ⟨rfl, sv7, hC7, hU7⟩
                  have HQ8 : Hid (Qo w sb cb sb lb q t la v w7) := HQ6.out.1.call s sv7 HC.out.1 HC.out.2 hC7 hU7 HQ6.out.1.o.tail
                  clear hC7 hU7 HC HD HQ6 cv
                  go_wp2
                  go_roundw
                  case rel => exact ⟨p + 1, t, la, v, by omega, by go_num, by have := hlen; simp at this; omega, HQ8.out⟩
                  case measure => simp [intOf]; omega
            · obtain rfl : p = j := by omega
              obtain rfl : ks = [] := List.eq_nil_of_length_eq_zero (by omega)
              obtain ⟨s, hc, ha⟩ := HQ.out.c
              have HV : Hid (Calls _ _ _ _ _) := victim_any ⟨none, 0, 0⟩ [] hc (by decide) (os_len (by simp)) (4 * ((0 : Nat) : Int)) (li_nil wr)
              rw [vic_none] at HV
              unfold slV at HV
              have h40 : 4 * ((0 : Nat) : Int) = 0 := rfl
              rw [h40] at HV
              have hg : (none : Option W.En).getD W.en0 = W.en0 := rfl
              have hg2 : (none : Option W.En).isSome = false := rfl
              rw [hg, hg2] at HV
              have hst := fun w => stE_new w W.en0 z6 rfl
              have HLen : Hid (∀ w', Below wr.heap.size wr w' → Calls Tryd.prog 24 #[.pointer (some ⟨cb, 0, none⟩)] w' fun e w'' => e = .returned (.int .i64 0) ∧ w' = w'') := fun w' hb => by
                have := len_any (hc.below hb) (by decide) (os_len (by simp))
                rw [os_nil] at this
                exact this
              clear hc ha hg hg2 h40
              go_wp2_with (fail)
              refine HV.out.mono ?_
              rintro e w5 ⟨rfl, hb5⟩
              have hba := below_alloc w5 (.cells (enL W.en0).toArray 37)
              have HB5 : Hid (Below wr.heap.size wr (w5.alloc (.cells (enL W.en0).toArray 37))) := hb5.trans (hba.mono hb5.size)
              clear hb5 hba
              go_wp2_with (fail)
              refine (HLen.out _ HB5.out).mono ?_
              rintro e w6 ⟨rfl, rfl⟩
              go_wp2
              go_ret
              exact ⟨rfl, HQ.out.b.trans (HB5.out.mono HQ.out.b.size)⟩
end Go.Proofs.YtlindkhmjkionaaDoor
