/- Lists of operations that grow. -/
import Derived.Test.YtbppeehhohdfiaaPpoW0
import Derived.Test.YtbppeehhohdfiaaPpoV
namespace Go.Proofs.Ytbppeehhohdfiaa
open Go.ChangeShapes Go.WideShapes Go.ChangeAt Go.RowKit
set_option linter.unusedVariables false
set_option linter.unusedSimpArgs false

def opsG (f : Nat → W.Opr) (n : Nat) : List Value := (List.range n).flatMap fun j => (opN (f j)).toList
theorem opsG_succ (f : Nat → W.Opr) (n : Nat) : opsG f (n + 1) = opsG f n ++ (opN (f n)).toList := by
  unfold opsG
  rw [List.range_succ, List.flatMap_append]
  simp
theorem opsG_len (f : Nat → W.Opr) : ∀ n, (opsG f n).length = n * 13
  | 0 => rfl
  | n + 1 => by rw [opsG_succ, List.length_append, opsG_len f n]; show n * 13 + 13 = _; omega
theorem opsG_get (f : Nat → W.Opr) : ∀ (n j k : Nat), j < n → k < 13 → (opsG f n)[j * 13 + k]? = (opN (f j))[k]?
  | 0, j, k, h, _ => by omega
  | n + 1, j, k, h, hk => by
    rw [opsG_succ]
    by_cases hj : j < n
    · rw [List.getElem?_append_left (by rw [opsG_len]; omega)]
      exact opsG_get f n j k hj hk
    · obtain rfl : j = n := by omega
      rw [List.getElem?_append_right (by rw [opsG_len]; omega), opsG_len, show j * 13 + k - j * 13 = k by omega]
      simp
theorem Ow.congr {g n : Nat} {x y : Nat → W.Oz} {S : Nat → S3} {w : World} (h : Ow g n x S w) (e : ∀ j, j < n → x j = y j) : Ow g n y S w :=
  ⟨h.b.congr fun i hi => by unfold opF; rw [e (i / 13) (by omega)], fun j hj => by rw [← e j hj]; exact h.a j hj, fun j hj => by rw [← e j hj]; exact h.d j hj, fun j hj => by rw [← e j hj]; exact h.c j hj⟩
theorem own_ow {w : World} {base n : Nat} {v : Value} {f : Nat → W.Opr} (h : w.ownsRow base 30 13 v n (opsG f n)) (hn : 0 < n) : ∃ g cap, v = .slice (some ⟨g, 0, none⟩) n cap ∧ n ≤ cap ∧ base ≤ g ∧ Ow g n (fun j => W.oz0 (f j)) (fun _ => S3.nil) w := by
  have h' := h
  rcases h.2 with ⟨_, h0⟩ | ⟨g, cap, cur, rfl, hg, hh, hcap, hmax, hcur, htake⟩
  · omega
  · refine ⟨g, cap, rfl, hcap, hg, ⟨⟨(Array.getElem?_eq_some_iff.1 hh).1, fun i hi => ?_, fun j => by unfold World.frozen?; rw [hh]; simp⟩, fun j hj => lg_nil _ _, fun j hj => lg_nil _ _, fun j hj => lg_nil _ _⟩⟩
    have e := opN_get (f (i / 13)) (i % 13) (by omega) (fun j => W.oz0 (f j)) (fun _ => S3.nil) (i / 13) rfl rfl
    rw [show i / 13 * 13 + i % 13 = i by omega] at e
    have hc := h'.cells (g := g) rfl i (opF (fun j => W.oz0 (f j)) (fun _ => S3.nil) i) (by
      have q := opsG_get f n (i / 13) (i % 13) (by omega) (by omega)
      rw [show i / 13 * 13 + i % 13 = i by omega] at q
      rw [q, e])
    rw [Addr.add_lit] at hc
    simpa using hc
theorem infoOp : (Try.prog.info? 30).map (fun i => (i.zero, i.size, i.bytes)) = some (some (.agg (opN (W.op3 0 0 0))), 13, 120) := by kernel_rfl
theorem opN_one (o : W.Opr) : ∀ u ∈ (opN o).toList, u.oneCell' = true := by
  intro u hu
  simp [opN, opC] at hu
  rcases hu with h | h | h | h | h | h | h | h | h | h | h <;> rw [h] <;> rfl
theorem opsR_one (o : W.Opr) : opsR [o] = opN o := by simp [opsR]
theorem news_op (o : W.Opr) (w : World) : ∀ j u, (opN o).toList[j]? = some u → (w.alloc (.cells (opsR [o]) 30)).cell? ((⟨w.heap.size, 0, none⟩ : Addr).add j) = some u := by
  rw [opsR_one]
  exact World.news_of_block (cs := opN o) (heap_alloc_last w _)
theorem own_nil (w : World) (base : Nat) (f : Nat → W.Opr) : w.ownsRow base 30 13 (.slice none 0 0) 0 (opsG f 0) := ⟨rfl, .inl ⟨rfl, rfl⟩⟩
theorem number_eq (n m : Int) (m0 : 0 < m) (m1 : m < 2147483648) : (wrap64 (n.tmod m + m)).tmod m = n % m := by
  have h0 := Int.emod_nonneg n (by omega : m ≠ 0)
  have h1 := Int.emod_lt_of_pos n m0
  have ht : n.tmod m = n % m ∨ n.tmod m = n % m - m := by
    rw [Int.tmod_eq_emod]
    split
    · left; omega
    · right; omega
  have hw : wrap64 (n.tmod m + m) = n.tmod m + m := by
    unfold wrap64
    omega
  rw [hw]
  rcases ht with h | h
  · rw [h, Int.tmod_eq_emod_of_nonneg (by omega), Int.add_emod_right, Int.emod_emod]
  · rw [h, Int.sub_add_cancel, Int.tmod_eq_emod_of_nonneg h0, Int.emod_emod]
theorem number_any (n m : Int) (n0 : -9223372036854775808 ≤ n) (n1 : n ≤ 9223372036854775807) (m0 : 0 < m) (m1 : m < 2147483648) (w : World) : Calls Try.prog 10 #[.int .i64 n, .int .i64 m] w fun z w' => z = .returned (.int .i64 (n % m)) ∧ w = w' := by
  have hm : ¬ m = 0 := by omega
  go_enter Try.func10, Try.ntmps10
  go_wp2
  go_ret
  refine ⟨by rw [number_eq n m m0 m1]; rfl, rfl⟩
end Go.Proofs.Ytbppeehhohdfiaa
