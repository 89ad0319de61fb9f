/- CacheSets: the walk. -/
import Derived.Test.YtlindkhmjkionaaDoorCacK
namespace Go.Proofs.YtlindkhmjkionaaDoor
open Go.ChangeShapes Go.WideShapes Go.ChangeAt Go.RowKit
set_option linter.unusedVariables false
set_option linter.unusedSimpArgs false
variable {n0 cb sb K : Nat} {ways : Int} {sv sv' sv'' : Nat → Value} {S S' : Nat → List W.En} {w w' w'' : World}

def lnL (d0 d1 d2 d3 : Int) : List Value := [.int .u32 d0, .int .u32 d1, .int .u32 d2, .int .u32 d3]
def lnV (d0 d1 d2 d3 : Int) : Value := .agg (lnL d0 d1 d2 d3).toArray
def ldL (a : Addr) : Sem Value := loadVar 35 a
theorem ldL_eq (a : Addr) : loadVar 35 a = ldL a := rfl
attribute [local go_sem ↓] ldE_eq stE_eq bdE_eq bsE_eq ldL_eq
theorem ldL_at {w : World} {b o : Nat} {d0 d1 d2 d3 : Int} (h : w.rangeAt b o (lnL d0 d1 d2 d3)) : (ldL ⟨b, o, none⟩).run Tryd.prog w = .ok (lnV d0 d1 d2 d3) w := run_loadVar_mid w b o _ _ _ h Tryd.underlying35 rfl (by kernel_rfl)
theorem bdE_3 (k s d0 d1 d2 d3 : Int) (w : World) : (bdE #[(0, .int .i64 k), (1, .int .i64 s), (2, lnV d0 d1 d2 d3)]).run Tryd.prog w = .ok (enV ⟨k, s, d0, d1, d2, d3⟩) w := by kernel_rfl
theorem EnAt.line {b : Nat} {e : W.En} {w : World} (h : EnAt b e w) : (ldL ⟨b, 2, none⟩).run Tryd.prog w = .ok (lnV e.d0 e.d1 e.d2 e.d3) w := ldL_at (fun j v hv => by
  have hj : j < 4 := (List.getElem?_eq_some_iff.1 hv).1
  rw [h.cAt (2 + j) (by omega)]
  match j, hj, hv with
  | 0, _, hv | 1, _, hv | 2, _, hv | 3, _, hv => exact hv)

theorem On.mono {b b' : Nat} {v : Value} {l : List Int} (h : On b v l w) (hb : b' ≤ b) : On b' v l w := by
  have HO : w.ownsRow b 3 1 v l.length (inX l) := h
  rcases HO.2 with ⟨h1, h2⟩ | ⟨g, cap, cur, h1, hbg, hg, hnc, hcm, hcs, htk⟩
  · exact ⟨HO.1, Or.inl ⟨h1, h2⟩⟩
  · exact ⟨HO.1, Or.inr ⟨g, cap, cur, h1, Nat.le_trans hb hbg, hg, hnc, hcm, hcs, htk⟩⟩
theorem ls_len {T : List Int} (h : W.Ls T S) (hT : T.length ≤ 30) : ∀ i, i < 4 → (S i).length ≤ 4096 := fun i hi => by
  rw [h.len i hi]
  have := List.countP_le_length (p := W.md i) (l := T)
  omega
theorem room_sets {T : List Int} (h : W.Ls T S) (k : Int) (hk : 0 ≤ k) : W.room 4 2 S k = (decide (k ∈ T) || decide (T.countP (W.md (W.ix 4 k)) < 2)) := by
  unfold W.room
  rw [if_neg (by omega), h.has k hk, h.len _ (W.ix_lt (by decide) k), Bool.or_comm]
  congr 1
  rw [Bool.eq_iff_iff, decide_eq_true_iff, decide_eq_true_iff]
  omega
theorem pt_sets (e : W.En) (h0 : 0 ≤ e.l) (h1 : 1 ≤ e.s) (h4 : e.s ≤ 4) : W.pt 4 2 S e = if W.room 4 2 S e.l = false then 3 else 0 := by
  unfold W.pt
  rw [if_neg (by omega), if_neg (by omega)]

set_option maxRecDepth 10000 in
set_option maxHeartbeats 1600000 in
theorem sets_some (A : Nat → Addr) (ol : W.Sl) (os : Nat → Int) (d0 d1 d2 d3 : Int) (h1 : ol.n ≤ 30) (w : World) (hO : 0 < ol.n → ∃ b o, ol.a = some ⟨b, o, none⟩ ∧ b < w.heap.size ∧ ∀ j, j < ol.n → w.cell? ⟨b, o + j, none⟩ = some (.int .i64 (os j)) ∧ -9223372036854775808 ≤ os j ∧ os j ≤ 9223372036854775807) (hS : Sent A w) :
    Calls Tryd.prog 5 #[slV ol, lnV d0 d1 d2 d3] w fun e w' => e = .returned (.bool true) ∧ Below w.heap.size w w' := by
  obtain ⟨a1, M, c1⟩ := ol
  dsimp only at h1 hO
  unfold slV
  have g1 : (M : Int) ≤ 30 := by omega
  have hba := below_alloc w (.cells (lnL d0 d1 d2 d3).toArray 35)
  have HS : Hid (Sent A (w.alloc (.cells (lnL d0 d1 d2 d3).toArray 35))) := hS.below hba
  have HBA : Hid (_) := hba
  have HO : Hid (0 < M → ∃ b o, a1 = some ⟨b, o, none⟩ ∧ b < (w.alloc (.cells (lnL d0 d1 d2 d3).toArray 35)).heap.size ∧ ∀ j, j < M → (w.alloc (.cells (lnL d0 d1 d2 d3).toArray 35)).cell? ⟨b, o + j, none⟩ = some (.int .i64 (os j)) ∧ -9223372036854775808 ≤ os j ∧ os j ≤ 9223372036854775807) := fun h0 => by
    obtain ⟨b, o, e, hb, hc⟩ := hO h0
    exact ⟨b, o, e, Nat.lt_of_lt_of_le hb hba.size, fun j hj => ⟨(hba.cell (p := ⟨b, o + j, none⟩) hb).trans (hc j hj).1, (hc j hj).2⟩⟩
  have HLN : Hid ((w.alloc (.cells (lnL d0 d1 d2 d3).toArray 35)).rangeAt w.heap.size 0 (lnL d0 d1 d2 d3) ∧ w.heap.size < (w.alloc (.cells (lnL d0 d1 d2 d3).toArray 35)).heap.size) := ⟨range_new w _ _, by simp⟩
  clear hO hS hba
  unfold lnV
  go_enter Tryd.func5, Tryd.ntmps5
  go_wp2_with (fail)
  have hWz : Hid (∀ w', Below (w.alloc (.cells (lnL d0 d1 d2 d3).toArray 35)).heap.size (w.alloc (.cells (lnL d0 d1 d2 d3).toArray 35)) w' → Below w.heap.size w w') := fun w' hb => HBA.out.trans (hb.mono HBA.out.size)
  clear HBA
  generalize hdb : w.heap.size = db at *
  generalize World.alloc w _ = w0 at *
  have HLD : Hid (∀ w', Below w0.heap.size w0 w' → (ldL ⟨db, 0, none⟩).run Tryd.prog w' = .ok (lnV d0 d1 d2 d3) w') := fun w' hb => ldL_at (range_below HLN.out.1 hb HLN.out.2)
  refine (first17_any A w0 HS.out).mono ?_
  rintro e w1 ⟨rfl, hb1⟩
  have HB1 : Hid (Below w0.heap.size w0 w1) := hb1
  clear hb1 HLN
  go_wp2_with (fail)
  refine (new_ok 4 (by decide) 2 (by decide) (by decide) w1).mono ?_
  rintro e w3 ⟨rfl, hN, hB⟩
  have HQ0 : Hid (Qs w0 w1.heap.size (w1.heap.size + 1) w1.heap.size [] nilS (.slice none 0 0) w3) :=
    ⟨⟨nilV, hN, fun g e => by cases e⟩, On.nil _ _, HB1.out.trans (hB.mono HB1.out.size), HB1.out.size, ⟨List.Pairwise.nil, by simp, fun i hi => List.Perm.refl _⟩⟩
  clear hN hB HB1
  generalize w1.heap.size + 1 = cb at *
  generalize w1.heap.size = sb at *
  obtain ⟨ti, hti, hzz⟩ := Option.map_eq_some_iff.1 infoI
  simp only [Prod.mk.injEq] at hzz
  obtain ⟨hz0, hz1, hz2⟩ := hzz
  go_wp2
  go_loopw [8, 9] (fun v j wr => ∃ (i : Nat) (T : List Int) (S : Nat → List W.En), i ≤ M ∧ j = .int .i64 i ∧ T.length ≤ i ∧ Qs w0 sb cb sb T S v wr) (fun _ j _ => M - (intOf j).toNat)
  case atStart => exact ⟨0, [], nilS, by omega, rfl, by simp, HQ0.out⟩
  case round =>
    obtain ⟨i, T, S, hi, rfl, hTi, hQ⟩ := hrel
    have HQ : Hid (Qs w0 sb cb sb T S u8 wr) := hQ
    clear hQ HQ0
    by_cases hlt : i < M
    · have hiM : (i : Int) < M := by omega
      obtain ⟨b, o, rfl, hbl, hc⟩ := HO.out (by omega)
      have hx := (hc i hlt).1
      have cx : wr.cell? ⟨b, o + i, none⟩ = some (.int .i64 (os i)) := (HQ.out.b.cell (p := ⟨b, o + i, none⟩) hbl).trans hx
      have h15 := and15 (os i)
      obtain ⟨k, hk⟩ : ∃ k : Int, os i % 16 = k := ⟨_, rfl⟩
      have k0 : 0 ≤ k := by omega
      have k15 : k ≤ 15 := by omega
      rw [hk] at h15
      generalize os i = xi at *
      clear hx hc hk
      obtain ⟨s, hv, hLi⟩ := HQ.out.t.li (by omega)
      have HLi : Hid (Li s T wr) := hLi
      have hform := HQ.out.t.form
      have HT : Hid (∀ t ∈ T, 0 ≤ t ∧ t ≤ 15) := HQ.out.l.rg
      have HV : Hid (u8 = slV s) := hv
      clear hv hform hLi
      obtain ⟨a8, n8, c8⟩ := s
      have hn8 : n8 = T.length := HLi.out.n
      have hnc8 : n8 ≤ c8 := HLi.out.nc
      have hu8 : u8 = .slice a8 n8 c8 := HV.out
      have HN8 : Hid (n8 = T.length) := hn8
      have hn30 : n8 ≤ 30 := by omega
      clear hn8
      subst hu8
      go_wp2
      go_loopw [11, 12] (fun u j wr' => ∃ p cnt : Nat, p ≤ n8 ∧ j = .int .i64 p ∧ u = .int .i64 (cnt : Nat) ∧ cnt ≤ p ∧ (T.take p).countP (W.md (W.ix 4 k)) = cnt ∧ wr = wr') (fun _ j _ => n8 - (intOf j).toNat)
      case atStart => exact ⟨0, 0, by omega, rfl, rfl, by omega, rfl, rfl⟩
      case round =>
        obtain ⟨p, cnt, hp, rfl, rfl, hcp, hcnt, rfl⟩ := hrel
        have HCN : Hid ((T.take p).countP (W.md (W.ix 4 k)) = cnt) := hcnt
        clear hcnt
        by_cases hpn : p < n8
        · have hpn' : (p : Int) < n8 := by omega
          obtain ⟨b', o', ea, hb', hc'⟩ := HLi.out.at_ (by show 0 < n8; omega)
          have ea' : a8 = some ⟨b', o', none⟩ := ea
          subst ea'
          obtain ⟨t, ht⟩ : ∃ t, T[p]? = some t := ⟨_, List.getElem?_eq_getElem (by have := HN8.out; omega)⟩
          have ct := hc' p t ht
          have t0 := (HT.out t (List.mem_of_getElem? ht)).1
          have htk : T.take (p + 1) = T.take p ++ [t] := by
            rw [List.take_succ_eq_append_getElem (by have := HN8.out; omega), show T[p]'(by have := HN8.out; omega) = t from Option.some.inj ((List.getElem?_eq_getElem _).symm.trans ht)]
          have hmd : W.md (W.ix 4 k) t = decide (t % 4 = k % 4) := by unfold W.md; rw [W.ix_mod k k0]
          have HNX : Hid ((T.take (p + 1)).countP (W.md (W.ix 4 k)) = cnt + if t % 4 = k % 4 then 1 else 0) := by
            show (T.take (p + 1)).countP (W.md (W.ix 4 k)) = cnt + if t % 4 = k % 4 then 1 else 0
            rw [htk, List.countP_append, HCN.out]
            simp [List.countP_cons, hmd]
          clear hc' ht htk hmd ea hb'
          by_cases e4 : t % 4 = k % 4
          · have e4' : (t % 4 == k % 4) = true := by simpa using e4
            rw [if_pos e4] at HNX
            have HE4 : Hid (t % 4 = k % 4) := e4
            clear e4
            go_wp2
            go_roundw
            case rel => exact ⟨p + 1, cnt + 1, by omega, by go_num, by go_num, by omega, HNX.out, by first | rfl | trivial⟩
            case measure => simp [intOf]; omega
          · have e4' : (t % 4 == k % 4) = false := by simpa using e4
            rw [if_neg e4] at HNX
            clear e4
            go_wp2
            go_roundw
            case rel => exact ⟨p + 1, cnt, by omega, by go_num, rfl, by omega, HNX.out, by first | rfl | trivial⟩
            case measure => simp [intOf]; omega
        · obtain rfl : p = n8 := by omega
          have HCT : Hid (T.countP (W.md (W.ix 4 k)) = cnt) := by
            have := HCN.out
            rwa [List.take_of_length_le (by have := HN8.out; omega)] at this
          have HAm : Hid (Calls _ _ _ _ _) := among_any ⟨a8, p, c8⟩ T k wr HLi.out
          unfold slV at HAm
          have hT30 : T.length ≤ 30 := by omega
          have HRm : Hid (W.room 4 2 S k = (decide (k ∈ T) || decide (cnt < 2))) := by
            have := room_sets HQ.out.l k k0
            rwa [HCT.out] at this
          obtain ⟨sv, hC, hA⟩ := HQ.out.c
          have HC : Hid (Ct sb cb sb 4 2 sv S wr ∧ (∀ g, (Value.slice a8 p c8).ownBlock = some g → Apt sb 4 sv g ∧ g ≠ cb)) := ⟨hC, hA⟩
          have hi4a : 0 ≤ (i : Int) % 4 := by omega
          have hi4b : (i : Int) % 4 ≤ 3 := by omega
          have HRoom : Hid (Calls _ _ _ _ _) := room_any hC (by decide) (ls_len HQ.out.l hT30) k
          rw [HRm.out] at HRoom
          have hbd := fun w => bdE_3 k (1 + (i : Int) % 4) d0 d1 d2 d3 w
          have HP : ∀ st, st = 1 + (i : Int) % 4 → W.pt 4 2 S ⟨k, st, d0, d1, d2, d3⟩ = if (decide (k ∈ T) || decide (cnt < 2)) = false then 3 else 0 := fun st hst => by
            rw [pt_sets _ k0 (by show 1 ≤ st; omega) (by show st ≤ 4; omega)]
            show (if W.room 4 2 S k = false then 3 else 0) = _
            rw [HRm.out]
          have HPt : Hid (_) := HP _ rfl
          clear hC hA HP
          have HE : Hid ((⟨k, 1 + (i : Int) % 4, d0, d1, d2, d3⟩ : W.En).l = k ∧ (⟨k, 1 + (i : Int) % 4, d0, d1, d2, d3⟩ : W.En).s = 1 + (i : Int) % 4 ∧ lnV (⟨k, 1 + (i : Int) % 4, d0, d1, d2, d3⟩ : W.En).d0 (⟨k, 1 + (i : Int) % 4, d0, d1, d2, d3⟩ : W.En).d1 (⟨k, 1 + (i : Int) % 4, d0, d1, d2, d3⟩ : W.En).d2 (⟨k, 1 + (i : Int) % 4, d0, d1, d2, d3⟩ : W.En).d3 = lnV d0 d1 d2 d3) := ⟨rfl, rfl, rfl⟩
          generalize (⟨k, 1 + (i : Int) % 4, d0, d1, d2, d3⟩ : W.En) = e at *
          have hway : k ∈ T ∨ (¬ k ∈ T ∧ cnt < 2) ∨ (¬ k ∈ T ∧ ¬ cnt < 2) := by
            by_cases h1 : k ∈ T
            · exact Or.inl h1
            · by_cases h2 : cnt < 2
              · exact Or.inr (Or.inl ⟨h1, h2⟩)
              · exact Or.inr (Or.inr ⟨h1, h2⟩)
          rcases hway with hin | ⟨hin, h2⟩ | ⟨hin, h2⟩
          · rw [decide_eq_true hin] at HRoom HPt HAm
            have hor : (true || decide (cnt < 2)) = true := rfl
            rw [hor] at HRoom HPt
            have h3 : (if true = false then 3 else 0) = 0 := rfl
            rw [h3] at HPt
            have hz0w := HQ.out.h0
            clear hin hor h3
            go_wp2_with (fail)
            refine HAm.out.mono ?_
            rintro r w5 ⟨rfl, rfl⟩
            go_wp2_with (fail)
            refine HRoom.out.mono ?_
            rintro r w6 ⟨rfl, hb6⟩
            have H6 : Hid (Qs w0 sb cb sb T S (Value.slice a8 p c8) w6) := HQ.out.below hb6
            have HPu : Hid (Calls _ _ _ _ _) := put_ok (HC.out.1.below hb6) (by decide) (ls_len HQ.out.l hT30) e HPt.out
            have hld := HLD.out w6 H6.out.b
            rw [HE.out.1] at HPu
            have HC6 : Hid (_ ∧ _) := ⟨HC.out.1.below hb6, HC.out.2⟩
            clear hb6
            go_wp2_with (fail)
            refine HPu.out.mono ?_
            rintro r w7 ⟨rfl, sv7, hC7, hU7⟩
            have H7 : Hid (_ ∧ _ ∧ _ ∧ _) := H6.out.call sv sv7 HC6.out.1 HC6.out.2 hC7 hU7
            have hb7 := below_alloc w7 (.cells #[.int .i64 k] 3)
            have HN7 : Hid (_ ∧ _) := ⟨H7.out.2.2.1.below hb7, World.news_of_block (cs := #[Value.int .i64 k]) (heap_alloc_last w7 (.cells #[.int .i64 k] 3))⟩
            have hw07 : w0.heap.size ≤ w7.heap.size := H7.out.2.2.2.size
            clear hC7 hU7 hld hbd hb7
            go_wp2_with (at_builtin; refine wpList_append_lies _ rfl _ _ 23 rfl w0.heap.size 3 ti (.int .i64 0) 1 8 Tryd.underlying23 hti hz0 hz1 hz2 rfl (by decide) (.slice a8 p c8) T.length (inX T) rfl HN7.out.1 ⟨w7.heap.size, 0, none⟩ 1 1 [.int .i64 k] rfl rfl HN7.out.2 (oneI [k]) (by decide) (by unfold maxLen; omega) (by omega) (by simp; omega) (w7.heap.size + 1) (by simp) ?_; intro g cap w8 hown8 hg8 hat8 hlt8)
            have hO8 : On w0.heap.size (.slice (some ⟨g, 0, none⟩) (T.length + 1) cap) (T ++ [k]) w8 := by
              show w8.ownsRow w0.heap.size 3 1 _ (T ++ [k]).length (inX (T ++ [k]))
              rw [List.length_append]
              have : inX (T ++ [k]) = inX T ++ [.int .i64 k] := by simp [inX]
              rw [this]
              exact hown8
            obtain ⟨s8, hs8, hli8⟩ := hO8.li (by rw [List.length_append]; show T.length + 1 ≤ 4096; omega)
            have HSo : Hid (Calls _ _ _ _ _) := sorted_any s8 (T ++ [k]) w8 hli8
            rw [← hs8, W.srt_snoc, W.srt_self T HQ.out.l.up] at HSo
            have hG8 := gtrans (galloc w7 (.cells #[.int .i64 k] 3) (Value.slice a8 p c8).ownBlock) hg8
            have H8 : Hid (Ct sb cb sb 4 2 sv7 (W.updS S (W.ix 4 k) (W.lst (S (W.ix 4 k)) e)) w8 ∧ Below w0.heap.size w0 w8) := by
              refine ⟨H7.out.1.othV hG8 H7.out.2.1, ?_⟩
              have hg0 : ∀ b, (Value.slice a8 p c8).ownBlock = some b → w0.heap.size ≤ b := fun b e => (H7.out.2.2.1.own e).1
              exact H7.out.2.2.2.grown hG8 hw07 hg0
            have hLs : W.Ls (W.ins k T) (W.updS S (W.ix 4 k) (W.lst (S (W.ix 4 k)) e)) := by
              have := HQ.out.l.step e (by rw [HE.out.1]; exact k0) (by rw [HE.out.1]; exact k15)
              rwa [HE.out.1] at this
            have HLs : Hid (_) := hLs
            have hgt : W.gt (W.lst (S (W.ix 4 k)) e) k = e := by
              have := W.gt_last (e := e) (HQ.out.l.nd _ (W.ix_lt (by decide) k))
              rwa [HE.out.1] at this
            have hhas : W.has (W.lst (S (W.ix 4 k)) e) k = true := by
              have := W.has_last (S (W.ix 4 k)) e
              rwa [HE.out.1] at this
            have HGT : Hid (_ ∧ _) := ⟨hgt, hhas⟩
            have hins : (W.ins k T).length ≤ i + 1 := Nat.le_trans (W.ins_len_le k T) (by omega)
            clear hown8 hg8 hat8 hO8 hs8 hli8 hG8 hgt hhas hLs HAm HRoom HPu HC HQ H6 HC6
            refine HSo.out.mono ?_
            rintro r w9 ⟨v9, rfl, hO9, hb9⟩
            have HQ9 : Hid (Qs w0 sb cb sb (W.ins k T) (W.updS S (W.ix 4 k) (W.lst (S (W.ix 4 k)) e)) v9 w9) := by
              have h8w : w0.heap.size ≤ w8.heap.size := H8.out.2.size
              refine ⟨⟨sv7, H8.out.1.below hb9, fun g' e' => ⟨H8.out.1.apt_new (hO9.own e').1, fun q => ?_⟩⟩, hO9.mono h8w, H8.out.2.trans (hb9.mono h8w), ?_, HLs.out⟩
              · have h1 := (hO9.own e').1
                have h2 := H8.out.1.b.lt
                omega
              · exact hz0w
            have hst4 : W.st 4 (W.updS S (W.ix 4 k) (W.lst (S (W.ix 4 k)) e)) k = W.lst (S (W.ix 4 k)) e := by
              unfold W.st
              rw [if_neg (by omega), W.updS_same]
            obtain ⟨sv9, hC9, hA9⟩ := HQ9.out.c
            have HFi : Hid (Calls _ _ _ _ _) := find_any hC9 (by decide) (ls_len HQ9.out.l (by omega)) k
            rw [hst4, HGT.out.1, HGT.out.2] at HFi
            have hst := fun w => stE_new w e z6 rfl
            clear hO9 hb9 hst4 hC9 hA9 HSo
            go_wp2_with (fail)
            refine HFi.out.mono ?_
            rintro r w10 ⟨rfl, hb10⟩
            have hba := below_alloc w10 (.cells (enL e).toArray 37)
            have hE11 := enAt_new w10 e
            have H11 : Hid (Qs w0 sb cb sb (W.ins k T) (W.updS S (W.ix 4 k) (W.lst (S (W.ix 4 k)) e)) v9 (w10.alloc (.cells (enL e).toArray 37))) := HQ9.out.below (hb10.trans (hba.mono hb10.size))
            have cst : (w10.alloc (.cells (enL e).toArray 37)).cell? ⟨w10.heap.size, 1, none⟩ = some (.int .i64 (1 + (i : Int) % 4)) := (hE11.cAt 1 (by decide)).trans (by show some (Value.int .i64 e.s) = _; rw [HE.out.2.1])
            have hl1 := hE11.line
            rw [HE.out.2.2] at hl1
            have hl2 := HLD.out _ H11.out.b
            have HSL : Hid (∀ w, Calls Tryd.prog 28 #[lnV d0 d1 d2 d3, lnV d0 d1 d2 d3] w fun e w' => e = .returned (.bool true) ∧ Below w.heap.size w w') := fun w => sameline_self d0 d1 d2 d3 w
            have heq1 : ((1 + (i : Int) % 4) == (1 + (i : Int) % 4)) = true := by simp
            clear hb10 hba hE11 HFi HQ9
            go_wp2_with (fail)
            clear hst
            generalize World.alloc w10 _ = W11 at *
            refine (HSL.out W11).mono ?_
            rintro r w12 ⟨rfl, hb12⟩
            have H12 : Hid (Qs w0 sb cb sb (W.ins k T) (W.updS S (W.ix 4 k) (W.lst (S (W.ix 4 k)) e)) v9 w12) := H11.out.below hb12
            clear hb12 H11 hl1 hl2 cst
            go_wp2
            go_roundw
            case rel => exact ⟨i + 1, W.ins k T, _, by omega, by go_num, by omega, H12.out⟩
            case measure => simp [intOf]; omega
          · rw [decide_eq_false hin, decide_eq_true h2] at HRoom HPt
            rw [decide_eq_false hin] at HAm
            have h2i : (cnt : Int) < 2 := by omega
            have hor : (false || true) = true := rfl
            rw [hor] at HRoom HPt
            have h3 : (if true = false then 3 else 0) = 0 := rfl
            rw [h3] at HPt
            have hz0w := HQ.out.h0
            clear hin h2 hor h3
            go_wp2_with (fail)
            refine HAm.out.mono ?_
            rintro r w5 ⟨rfl, rfl⟩
            go_wp2_with (fail)
            refine HRoom.out.mono ?_
            rintro r w6 ⟨rfl, hb6⟩
            have H6 : Hid (Qs w0 sb cb sb T S (Value.slice a8 p c8) w6) := HQ.out.below hb6
            have HPu : Hid (Calls _ _ _ _ _) := put_ok (HC.out.1.below hb6) (by decide) (ls_len HQ.out.l hT30) e HPt.out
            have hld := HLD.out w6 H6.out.b
            rw [HE.out.1] at HPu
            have HC6 : Hid (_ ∧ _) := ⟨HC.out.1.below hb6, HC.out.2⟩
            clear hb6
            go_wp2_with (fail)
            refine HPu.out.mono ?_
            rintro r w7 ⟨rfl, sv7, hC7, hU7⟩
            have H7 : Hid (_ ∧ _ ∧ _ ∧ _) := H6.out.call sv sv7 HC6.out.1 HC6.out.2 hC7 hU7
            have hb7 := below_alloc w7 (.cells #[.int .i64 k] 3)
            have HN7 : Hid (_ ∧ _) := ⟨H7.out.2.2.1.below hb7, World.news_of_block (cs := #[Value.int .i64 k]) (heap_alloc_last w7 (.cells #[.int .i64 k] 3))⟩
            have hw07 : w0.heap.size ≤ w7.heap.size := H7.out.2.2.2.size
            clear hC7 hU7 hld hbd hb7
            go_wp2_with (at_builtin; refine wpList_append_lies _ rfl _ _ 23 rfl w0.heap.size 3 ti (.int .i64 0) 1 8 Tryd.underlying23 hti hz0 hz1 hz2 rfl (by decide) (.slice a8 p c8) T.length (inX T) rfl HN7.out.1 ⟨w7.heap.size, 0, none⟩ 1 1 [.int .i64 k] rfl rfl HN7.out.2 (oneI [k]) (by decide) (by unfold maxLen; omega) (by omega) (by simp; omega) (w7.heap.size + 1) (by simp) ?_; intro g cap w8 hown8 hg8 hat8 hlt8)
            have hO8 : On w0.heap.size (.slice (some ⟨g, 0, none⟩) (T.length + 1) cap) (T ++ [k]) w8 := by
              show w8.ownsRow w0.heap.size 3 1 _ (T ++ [k]).length (inX (T ++ [k]))
              rw [List.length_append]
              have : inX (T ++ [k]) = inX T ++ [.int .i64 k] := by simp [inX]
              rw [this]
              exact hown8
            obtain ⟨s8, hs8, hli8⟩ := hO8.li (by rw [List.length_append]; show T.length + 1 ≤ 4096; omega)
            have HSo : Hid (Calls _ _ _ _ _) := sorted_any s8 (T ++ [k]) w8 hli8
            rw [← hs8, W.srt_snoc, W.srt_self T HQ.out.l.up] at HSo
            have hG8 := gtrans (galloc w7 (.cells #[.int .i64 k] 3) (Value.slice a8 p c8).ownBlock) hg8
            have H8 : Hid (Ct sb cb sb 4 2 sv7 (W.updS S (W.ix 4 k) (W.lst (S (W.ix 4 k)) e)) w8 ∧ Below w0.heap.size w0 w8) := by
              refine ⟨H7.out.1.othV hG8 H7.out.2.1, ?_⟩
              have hg0 : ∀ b, (Value.slice a8 p c8).ownBlock = some b → w0.heap.size ≤ b := fun b e => (H7.out.2.2.1.own e).1
              exact H7.out.2.2.2.grown hG8 hw07 hg0
            have hLs : W.Ls (W.ins k T) (W.updS S (W.ix 4 k) (W.lst (S (W.ix 4 k)) e)) := by
              have := HQ.out.l.step e (by rw [HE.out.1]; exact k0) (by rw [HE.out.1]; exact k15)
              rwa [HE.out.1] at this
            have HLs : Hid (_) := hLs
            have hgt : W.gt (W.lst (S (W.ix 4 k)) e) k = e := by
              have := W.gt_last (e := e) (HQ.out.l.nd _ (W.ix_lt (by decide) k))
              rwa [HE.out.1] at this
            have hhas : W.has (W.lst (S (W.ix 4 k)) e) k = true := by
              have := W.has_last (S (W.ix 4 k)) e
              rwa [HE.out.1] at this
            have HGT : Hid (_ ∧ _) := ⟨hgt, hhas⟩
            have hins : (W.ins k T).length ≤ i + 1 := Nat.le_trans (W.ins_len_le k T) (by omega)
            clear hown8 hg8 hat8 hO8 hs8 hli8 hG8 hgt hhas hLs HAm HRoom HPu HC HQ H6 HC6
            refine HSo.out.mono ?_
            rintro r w9 ⟨v9, rfl, hO9, hb9⟩
            have HQ9 : Hid (Qs w0 sb cb sb (W.ins k T) (W.updS S (W.ix 4 k) (W.lst (S (W.ix 4 k)) e)) v9 w9) := by
              have h8w : w0.heap.size ≤ w8.heap.size := H8.out.2.size
              refine ⟨⟨sv7, H8.out.1.below hb9, fun g' e' => ⟨H8.out.1.apt_new (hO9.own e').1, fun q => ?_⟩⟩, hO9.mono h8w, H8.out.2.trans (hb9.mono h8w), ?_, HLs.out⟩
              · have h1 := (hO9.own e').1
                have h2 := H8.out.1.b.lt
                omega
              · exact hz0w
            have hst4 : W.st 4 (W.updS S (W.ix 4 k) (W.lst (S (W.ix 4 k)) e)) k = W.lst (S (W.ix 4 k)) e := by
              unfold W.st
              rw [if_neg (by omega), W.updS_same]
            obtain ⟨sv9, hC9, hA9⟩ := HQ9.out.c
            have HFi : Hid (Calls _ _ _ _ _) := find_any hC9 (by decide) (ls_len HQ9.out.l (by omega)) k
            rw [hst4, HGT.out.1, HGT.out.2] at HFi
            have hst := fun w => stE_new w e z6 rfl
            clear hO9 hb9 hst4 hC9 hA9 HSo
            go_wp2_with (fail)
            refine HFi.out.mono ?_
            rintro r w10 ⟨rfl, hb10⟩
            have hba := below_alloc w10 (.cells (enL e).toArray 37)
            have hE11 := enAt_new w10 e
            have H11 : Hid (Qs w0 sb cb sb (W.ins k T) (W.updS S (W.ix 4 k) (W.lst (S (W.ix 4 k)) e)) v9 (w10.alloc (.cells (enL e).toArray 37))) := HQ9.out.below (hb10.trans (hba.mono hb10.size))
            have cst : (w10.alloc (.cells (enL e).toArray 37)).cell? ⟨w10.heap.size, 1, none⟩ = some (.int .i64 (1 + (i : Int) % 4)) := (hE11.cAt 1 (by decide)).trans (by show some (Value.int .i64 e.s) = _; rw [HE.out.2.1])
            have hl1 := hE11.line
            rw [HE.out.2.2] at hl1
            have hl2 := HLD.out _ H11.out.b
            have HSL : Hid (∀ w, Calls Tryd.prog 28 #[lnV d0 d1 d2 d3, lnV d0 d1 d2 d3] w fun e w' => e = .returned (.bool true) ∧ Below w.heap.size w w') := fun w => sameline_self d0 d1 d2 d3 w
            have heq1 : ((1 + (i : Int) % 4) == (1 + (i : Int) % 4)) = true := by simp
            clear hb10 hba hE11 HFi HQ9
            go_wp2_with (fail)
            clear hst
            generalize World.alloc w10 _ = W11 at *
            refine (HSL.out W11).mono ?_
            rintro r w12 ⟨rfl, hb12⟩
            have H12 : Hid (Qs w0 sb cb sb (W.ins k T) (W.updS S (W.ix 4 k) (W.lst (S (W.ix 4 k)) e)) v9 w12) := H11.out.below hb12
            clear hb12 H11 hl1 hl2 cst
            go_wp2
            go_roundw
            case rel => exact ⟨i + 1, W.ins k T, _, by omega, by go_num, by omega, H12.out⟩
            case measure => simp [intOf]; omega
          · rw [decide_eq_false hin, decide_eq_false h2] at HRoom HPt
            rw [decide_eq_false hin] at HAm
            have h2i : ¬ (cnt : Int) < 2 := by omega
            have hor : (false || false) = false := rfl
            rw [hor] at HRoom HPt
            have h3 : (if false = false then 3 else 0) = 3 := rfl
            rw [h3] at HPt
            clear hin h2 hor h3
            go_wp2_with (fail)
            refine HAm.out.mono ?_
            rintro r w5 ⟨rfl, rfl⟩
            go_wp2_with (fail)
            refine HRoom.out.mono ?_
            rintro r w6 ⟨rfl, hb6⟩
            have H6 : Hid (Qs w0 sb cb sb T S (Value.slice a8 p c8) w6) := HQ.out.below hb6
            have HPu : Hid (Calls _ _ _ _ _) := put_err A (HC.out.1.below hb6) (by decide) (ls_len HQ.out.l hT30) (HS.out.below H6.out.b) e 3 HPt.out (by decide)
            unfold errV at HPu
            have hld := HLD.out w6 H6.out.b
            clear hb6
            go_wp2_with (fail)
            refine HPu.out.mono ?_
            rintro r w7 ⟨rfl, hb7⟩
            have H7 : Hid (Qs w0 sb cb sb T S (Value.slice a8 p c8) w7) := H6.out.below hb7
            clear hb7 H6 HQ hld hbd
            go_wp2
            go_roundw
            case rel => exact ⟨i + 1, T, S, by omega, by go_num, by omega, H7.out⟩
            case measure => simp [intOf]; omega
    · obtain rfl : i = M := by omega
      obtain ⟨sv, hC, hA⟩ := HQ.out.c
      have HLen : Hid (Calls _ _ _ _ _) := len_any hC (by decide) (ls_len HQ.out.l (by omega))
      rw [HQ.out.l.sum] at HLen
      obtain ⟨s, hv, hLi⟩ := HQ.out.t.li (by omega)
      have hn8 := hLi.n
      obtain ⟨a8, n8, c8⟩ := s
      have hu8 : u8 = .slice a8 n8 c8 := hv
      subst hu8
      have hn8' : n8 = T.length := hn8
      rw [← hn8'] at HLen
      clear hC hA hv hLi hn8 hn8'
      go_wp2_with (fail)
      refine HLen.out.mono ?_
      rintro r w5 ⟨rfl, rfl⟩
      go_wp2
      go_ret
      exact ⟨rfl, by rw [hdb]; exact hWz.out _ HQ.out.b⟩

set_option maxRecDepth 10000 in
set_option maxHeartbeats 1600000 in
theorem sets_long (A : Nat → Addr) (a1 : Option Addr) (M c1 : Nat) (d0 d1 d2 d3 : Int) (h1 : 30 < M) (hm : M ≤ maxLen) (w : World) (hS : Sent A w) :
    Calls Tryd.prog 5 #[.slice a1 M c1, lnV d0 d1 d2 d3] w fun e w' => e = .returned (.bool true) ∧ Below w.heap.size w w' := by
  unfold maxLen at hm
  have g1 : (30 : Int) < M := by omega
  have hba := below_alloc w (.cells (lnL d0 d1 d2 d3).toArray 35)
  have HS : Hid (Sent A (w.alloc (.cells (lnL d0 d1 d2 d3).toArray 35))) := hS.below hba
  have HB : Hid (_) := hba
  clear hS hba
  unfold lnV
  go_enter Tryd.func5, Tryd.ntmps5
  go_wp2_with (fail)
  refine (first17_any A _ HS.out).mono ?_
  rintro e w1 ⟨rfl, hb1⟩
  go_wp2
  go_ret
  exact ⟨rfl, HB.out.trans (hb1.mono HB.out.size)⟩
end Go.Proofs.YtlindkhmjkionaaDoor
