/- What the document's Rows returns. -/
import Derived.Test.YthbcdlaejefkaaaDoorRowsR
namespace Go.Proofs.YthbcdlaejefkaaaDoor
open Go.ChangeShapes Go.WideShapes Go.ChangeAt Go.RowKit
set_option linter.unusedVariables false
set_option linter.unusedSimpArgs false

theorem Good.cons {P : Program} {n : Nat} {o : Oper} {l : List Oper} {v : Value} {vs : List Value} (hg : o.guard = none) (hd : o.dst = some n) (f : FuncId) (args : Array Value) (hrun : ∀ a : Act, ∀ w, (execOp a.eval o).run P w = .ok (.enter f args) w)
    (hc : ∀ w, Calls P f args w fun e w' => e = .returned v ∧ Below w.heap.size w w') (hr : Good P (n + 1) l vs) : Good P n (o :: l) (v :: vs) := ⟨⟨hg, hd, f, args, hrun, hc⟩, hr⟩
theorem puts_low : ∀ (vs : List Value) (n : Nat) (a : Act) (k : Nat), k < n → (puts a n vs).eval (.tmp k) = a.eval (.tmp k)
  | [], _, _, _, _ => rfl
  | v :: vs, n, a, k, h => by
    rw [puts, puts_low vs (n + 1) _ k (by omega)]
    simp only [Act.eval, Act.put]
    rw [Array.getD_eq_getD_getElem?, Array.getD_eq_getD_getElem?, Array.getElem?_setIfInBounds_ne (by omega)]
theorem puts_at : ∀ (vs : List Value) (n : Nat) (a : Act) (i : Nat) (h : i < vs.length), n + vs.length ≤ a.tmps.size → (puts a n vs).eval (.tmp (n + i)) = vs[i]
  | v :: vs, n, a, 0, _, hs => by
    show (puts (a.put (some n) v) (n + 1) vs).eval (.tmp n) = v
    rw [puts_low vs (n + 1) _ n (by omega)]
    simp only [Act.eval, Act.put]
    rw [Array.getD_eq_getD_getElem?, Array.getElem?_setIfInBounds_self_of_lt (by simp at hs; omega)]
    rfl
  | v :: vs, n, a, i + 1, h, hs => by
    rw [puts, show n + (i + 1) = (n + 1) + i by omega, puts_at vs (n + 1) _ i (by simpa using h) (by simp [Act.put] at hs ⊢; omega)]
    rfl

set_option maxRecDepth 100000 in
set_option maxHeartbeats 6400000 in
theorem rows_any (w : World) : Calls Tryd.prog 21 #[] w fun e w' => ∃ w1, Below w.heap.size w w1 ∧ e = .returned (.slice (some ⟨w1.heap.size, 0, none⟩) 69 69) ∧ w' = w1.alloc (.cells (rowVals.flatMap fun v => v.cells.toList).toArray 38) := by
  go_enter Tryd.func21, Tryd.ntmps21
  generalize hops : (List.toArray (List.append ({ dst := some 1, op := _, type := _, pos := _, after := _, guard := _ } :: _) _) : Array Oper) = ops
  go_wp2
  generalize ops.toList.toArray = OA
  subst hops
  rw [← List.take_append_drop 69 (List.toArray _).toList]
  refine wpList_calls _ rowVals 1 _ w ?good ?rest
  case good =>
    refine Good.cons rfl rfl 42 _ (fun _ _ => by kernel_rfl) row_1 ?_
    refine Good.cons rfl rfl 42 _ (fun _ _ => by kernel_rfl) row_2 ?_
    refine Good.cons rfl rfl 42 _ (fun _ _ => by kernel_rfl) row_3 ?_
    refine Good.cons rfl rfl 42 _ (fun _ _ => by kernel_rfl) row_4 ?_
    refine Good.cons rfl rfl 42 _ (fun _ _ => by kernel_rfl) row_5 ?_
    refine Good.cons rfl rfl 42 _ (fun _ _ => by kernel_rfl) row_6 ?_
    refine Good.cons rfl rfl 42 _ (fun _ _ => by kernel_rfl) row_7 ?_
    refine Good.cons rfl rfl 42 _ (fun _ _ => by kernel_rfl) row_8 ?_
    refine Good.cons rfl rfl 42 _ (fun _ _ => by kernel_rfl) row_9 ?_
    refine Good.cons rfl rfl 42 _ (fun _ _ => by kernel_rfl) row_10 ?_
    refine Good.cons rfl rfl 42 _ (fun _ _ => by kernel_rfl) row_11 ?_
    refine Good.cons rfl rfl 42 _ (fun _ _ => by kernel_rfl) row_12 ?_
    refine Good.cons rfl rfl 42 _ (fun _ _ => by kernel_rfl) row_13 ?_
    refine Good.cons rfl rfl 42 _ (fun _ _ => by kernel_rfl) row_14 ?_
    refine Good.cons rfl rfl 42 _ (fun _ _ => by kernel_rfl) row_15 ?_
    refine Good.cons rfl rfl 42 _ (fun _ _ => by kernel_rfl) row_16 ?_
    refine Good.cons rfl rfl 42 _ (fun _ _ => by kernel_rfl) row_17 ?_
    refine Good.cons rfl rfl 42 _ (fun _ _ => by kernel_rfl) row_18 ?_
    refine Good.cons rfl rfl 42 _ (fun _ _ => by kernel_rfl) row_19 ?_
    refine Good.cons rfl rfl 42 _ (fun _ _ => by kernel_rfl) row_20 ?_
    refine Good.cons rfl rfl 42 _ (fun _ _ => by kernel_rfl) row_21 ?_
    refine Good.cons rfl rfl 42 _ (fun _ _ => by kernel_rfl) row_22 ?_
    refine Good.cons rfl rfl 42 _ (fun _ _ => by kernel_rfl) row_23 ?_
    refine Good.cons rfl rfl 42 _ (fun _ _ => by kernel_rfl) row_24 ?_
    refine Good.cons rfl rfl 42 _ (fun _ _ => by kernel_rfl) row_25 ?_
    refine Good.cons rfl rfl 42 _ (fun _ _ => by kernel_rfl) row_26 ?_
    refine Good.cons rfl rfl 42 _ (fun _ _ => by kernel_rfl) row_27 ?_
    refine Good.cons rfl rfl 42 _ (fun _ _ => by kernel_rfl) row_28 ?_
    refine Good.cons rfl rfl 42 _ (fun _ _ => by kernel_rfl) row_29 ?_
    refine Good.cons rfl rfl 42 _ (fun _ _ => by kernel_rfl) row_30 ?_
    refine Good.cons rfl rfl 42 _ (fun _ _ => by kernel_rfl) row_31 ?_
    refine Good.cons rfl rfl 42 _ (fun _ _ => by kernel_rfl) row_32 ?_
    refine Good.cons rfl rfl 42 _ (fun _ _ => by kernel_rfl) row_33 ?_
    refine Good.cons rfl rfl 42 _ (fun _ _ => by kernel_rfl) row_34 ?_
    refine Good.cons rfl rfl 42 _ (fun _ _ => by kernel_rfl) row_35 ?_
    refine Good.cons rfl rfl 42 _ (fun _ _ => by kernel_rfl) row_36 ?_
    refine Good.cons rfl rfl 42 _ (fun _ _ => by kernel_rfl) row_37 ?_
    refine Good.cons rfl rfl 42 _ (fun _ _ => by kernel_rfl) row_38 ?_
    refine Good.cons rfl rfl 43 _ (fun _ _ => by kernel_rfl) row_39 ?_
    refine Good.cons rfl rfl 43 _ (fun _ _ => by kernel_rfl) row_40 ?_
    refine Good.cons rfl rfl 43 _ (fun _ _ => by kernel_rfl) row_41 ?_
    refine Good.cons rfl rfl 43 _ (fun _ _ => by kernel_rfl) row_42 ?_
    refine Good.cons rfl rfl 43 _ (fun _ _ => by kernel_rfl) row_43 ?_
    refine Good.cons rfl rfl 42 _ (fun _ _ => by kernel_rfl) row_44 ?_
    refine Good.cons rfl rfl 42 _ (fun _ _ => by kernel_rfl) row_45 ?_
    refine Good.cons rfl rfl 42 _ (fun _ _ => by kernel_rfl) row_46 ?_
    refine Good.cons rfl rfl 42 _ (fun _ _ => by kernel_rfl) row_47 ?_
    refine Good.cons rfl rfl 42 _ (fun _ _ => by kernel_rfl) row_48 ?_
    refine Good.cons rfl rfl 42 _ (fun _ _ => by kernel_rfl) row_49 ?_
    refine Good.cons rfl rfl 42 _ (fun _ _ => by kernel_rfl) row_50 ?_
    refine Good.cons rfl rfl 42 _ (fun _ _ => by kernel_rfl) row_51 ?_
    refine Good.cons rfl rfl 42 _ (fun _ _ => by kernel_rfl) row_52 ?_
    refine Good.cons rfl rfl 42 _ (fun _ _ => by kernel_rfl) row_53 ?_
    refine Good.cons rfl rfl 42 _ (fun _ _ => by kernel_rfl) row_54 ?_
    refine Good.cons rfl rfl 42 _ (fun _ _ => by kernel_rfl) row_55 ?_
    refine Good.cons rfl rfl 42 _ (fun _ _ => by kernel_rfl) row_56 ?_
    refine Good.cons rfl rfl 42 _ (fun _ _ => by kernel_rfl) row_57 ?_
    refine Good.cons rfl rfl 42 _ (fun _ _ => by kernel_rfl) row_58 ?_
    refine Good.cons rfl rfl 42 _ (fun _ _ => by kernel_rfl) row_59 ?_
    refine Good.cons rfl rfl 42 _ (fun _ _ => by kernel_rfl) row_60 ?_
    refine Good.cons rfl rfl 42 _ (fun _ _ => by kernel_rfl) row_61 ?_
    refine Good.cons rfl rfl 42 _ (fun _ _ => by kernel_rfl) row_62 ?_
    refine Good.cons rfl rfl 42 _ (fun _ _ => by kernel_rfl) row_63 ?_
    refine Good.cons rfl rfl 42 _ (fun _ _ => by kernel_rfl) row_64 ?_
    refine Good.cons rfl rfl 42 _ (fun _ _ => by kernel_rfl) row_65 ?_
    refine Good.cons rfl rfl 42 _ (fun _ _ => by kernel_rfl) row_66 ?_
    refine Good.cons rfl rfl 42 _ (fun _ _ => by kernel_rfl) row_67 ?_
    refine Good.cons rfl rfl 42 _ (fun _ _ => by kernel_rfl) row_68 ?_
    refine Good.cons rfl rfl 42 _ (fun _ _ => by kernel_rfl) row_69 ?_
    exact trivial
  case rest =>
    intro w1 hb
    refine Great.wpList_buildRows (vs := rowVals) (t := 45) (e := 38) (s := 14) (ix := fun i => 1 + i) (N := w1.heap.size) (dst := some 70) rfl _ rfl rfl rfl Tryd.underlying45 (by kernel_rfl) (by kernel_rfl) (by decide) (by decide) (by decide) (by kernel_rfl) ?cells ?ev ?next
    case cells =>
      have h : (rowVals.all fun v => v.cells.size == 14) = true := by kernel_rfl
      exact fun v hv => by simpa using List.all_eq_true.1 h v hv
    case ev => exact fun i h => puts_at rowVals 1 _ i h (by decide)
    case next =>
      refine wpList_frame (a' := ⟨#[.slice none 0 0, rv1, rv2, rv3, rv4, rv5, rv6, rv7, rv8, rv9, rv10, rv11, rv12, rv13, rv14, rv15, rv16, rv17, rv18, rv19, rv20, rv21, rv22, rv23, rv24, rv25, rv26, rv27, rv28, rv29, rv30, rv31, rv32, rv33, rv34, rv35, rv36, rv37, rv38, rv39, rv40, rv41, rv42, rv43, rv44, rv45, rv46, rv47, rv48, rv49, rv50, rv51, rv52, rv53, rv54, rv55, rv56, rv57, rv58, rv59, rv60, rv61, rv62, rv63, rv64, rv65, rv66, rv67, rv68, rv69, .slice (some ⟨w1.heap.size, 0, none⟩) 69 69], []⟩) (by kernel_rfl) ?_
      go_wp2
      go_ret
      exact ⟨w1, hb, rfl, rfl⟩
end Go.Proofs.YthbcdlaejefkaaaDoor
