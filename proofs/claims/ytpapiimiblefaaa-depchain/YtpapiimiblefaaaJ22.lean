/- Texts in one: RowsL, RowsR, RowsA, Names, RKind, Uses, RowsB, Ref, Ref2. -/
import Derived.Great.BuildSlice
import Derived.Great.CaseRows
import Derived.Deep.RegionHeld3
import Derived.Deep.DrawnRows
import Derived.Test.YtpapiimiblefaaaJ01
import Derived.Test.YtpapiimiblefaaaJ02
import Derived.Test.YtpapiimiblefaaaJ07
import Derived.Test.YtpapiimiblefaaaJ20
import Derived.Test.YtpapiimiblefaaaJ21
/- A list of calls in one region, each by its contract; and the rows of the document's table. -/
namespace Go.Proofs.Ytpapiimiblefaaa
open Go.ChangeShapes Go.WideShapes Go.ChangeAt Go.RowKit
set_option linter.unusedVariables false
set_option linter.unusedSimpArgs false

/-- The values in the slots from n on. -/
def puts (a : Act) : Nat → List Value → Act
  | _, [] => a
  | n, v :: vs => puts (a.put (some n) v) (n + 1) vs
/-- Each operation is a call that hands back the value, whatever the frame. -/
def Good (P : Program) : Nat → List Oper → List Value → Prop
  | _, [], [] => True
  | n, o :: l, v :: vs => (o.guard = none ∧ o.dst = some n ∧ ∃ f args, (∀ a : Act, ∀ w, (execOp a.eval o).run P w = .ok (.enter f args) w) ∧ ∀ w, Calls P f args w fun e w' => e = .returned v ∧ Below w.heap.size w w') ∧ Good P (n + 1) l vs
  | _, _, _ => False
theorem wpList_calls {P : Program} {ops : Array Oper} {rest : List Oper} {Q : Exit → Act → World → Prop} : ∀ (l : List Oper) (vs : List Value) (n : Nat) (a : Act) (w : World), Good P n l vs →
    (∀ w', Below w.heap.size w w' → wpList P ops Q rest (puts a n vs) w') → wpList P ops Q (l ++ rest) a w
  | [], [], n, a, w, _, h => h w (Below.refl _ _)
  | o :: l, v :: vs, n, a, w, ⟨⟨hg, hd, f, args, hrun, hc⟩, hr⟩, h => by
    refine wpList_plain hg fun K hK => ?_
    unfold Oper.wp
    rw [hrun, Oper.upon_enter]
    refine (hc w).mono fun e w'' hh => ?_
    obtain ⟨rfl, hb⟩ := hh
    rw [hd]
    exact hK _ _ (wpList_calls l vs (n + 1) _ w'' hr fun w' hb' => h w' (hb.trans (hb'.mono hb.size)))
  | [], _ :: _, _, _, _, hf, _ => absurd hf (by simp [Good])
  | _ :: _, [], _, _, _, hf, _ => absurd hf (by simp [Good])
end Go.Proofs.Ytpapiimiblefaaa

/- The rows of the document's table, each by its call. -/
namespace Go.Proofs.Ytpapiimiblefaaa
open Go.ChangeShapes Go.WideShapes Go.ChangeAt Go.RowKit
set_option linter.unusedVariables false
set_option linter.unusedSimpArgs false

theorem whole_any (op x : Int) (nm : ByteArray) (w : World) : Calls Try.prog 49 #[.int .i64 op, .string nm, .int .u32 x] w fun e w' => e = .returned (.agg #[.int .i64 op, .string nm, .int .u32 0, .int .u32 0, .int .u32 0, .bool false, .bool false, .int .u8 0, .bool false, .bool false, .bool false, .bool false, .int .u32 x, .bool false]) ∧ Below w.heap.size w w' := by
  have hb : Below w.heap.size w w := Below.refl _ _
  go_enter Try.func49, Try.ntmps49
  go_wp2
  exact bodyPost_ret (v := .agg #[.int .i64 op, .string nm, .int .u32 0, .int .u32 0, .int .u32 0, .bool false, .bool false, .int .u8 0, .bool false, .bool false, .bool false, .bool false, .int .u32 x, .bool false]) (by simp [results, Try.results49, go_sem]) rfl ⟨rfl, by repeat (first | exact hb | exact hb.alloc hb.size _)⟩

def rv1 : Value := .agg #[.int .i64 1, .string ⟨#[108, 117, 105]⟩, .int .u32 55, .int .u32 0, .int .u32 0, .bool false, .bool false, .int .u8 85, .bool true, .bool false, .bool false, .bool false, .int .u32 0, .bool false]
def rv2 : Value := .agg #[.int .i64 2, .string ⟨#[97, 117, 105, 112, 99]⟩, .int .u32 23, .int .u32 0, .int .u32 0, .bool false, .bool false, .int .u8 85, .bool true, .bool false, .bool false, .bool false, .int .u32 0, .bool false]
def rv3 : Value := .agg #[.int .i64 3, .string ⟨#[106, 97, 108]⟩, .int .u32 111, .int .u32 0, .int .u32 0, .bool false, .bool false, .int .u8 74, .bool true, .bool false, .bool false, .bool false, .int .u32 0, .bool false]
def rv4 : Value := .agg #[.int .i64 4, .string ⟨#[106, 97, 108, 114]⟩, .int .u32 103, .int .u32 0, .int .u32 0, .bool true, .bool false, .int .u8 73, .bool true, .bool true, .bool false, .bool false, .int .u32 0, .bool false]
def rv5 : Value := .agg #[.int .i64 5, .string ⟨#[98, 101, 113]⟩, .int .u32 99, .int .u32 0, .int .u32 0, .bool true, .bool false, .int .u8 66, .bool false, .bool true, .bool true, .bool false, .int .u32 0, .bool false]
def rv6 : Value := .agg #[.int .i64 6, .string ⟨#[98, 110, 101]⟩, .int .u32 99, .int .u32 1, .int .u32 0, .bool true, .bool false, .int .u8 66, .bool false, .bool true, .bool true, .bool false, .int .u32 0, .bool false]
def rv7 : Value := .agg #[.int .i64 7, .string ⟨#[98, 108, 116]⟩, .int .u32 99, .int .u32 4, .int .u32 0, .bool true, .bool false, .int .u8 66, .bool false, .bool true, .bool true, .bool false, .int .u32 0, .bool false]
def rv8 : Value := .agg #[.int .i64 8, .string ⟨#[98, 103, 101]⟩, .int .u32 99, .int .u32 5, .int .u32 0, .bool true, .bool false, .int .u8 66, .bool false, .bool true, .bool true, .bool false, .int .u32 0, .bool false]
def rv9 : Value := .agg #[.int .i64 9, .string ⟨#[98, 108, 116, 117]⟩, .int .u32 99, .int .u32 6, .int .u32 0, .bool true, .bool false, .int .u8 66, .bool false, .bool true, .bool true, .bool false, .int .u32 0, .bool false]
def rv10 : Value := .agg #[.int .i64 10, .string ⟨#[98, 103, 101, 117]⟩, .int .u32 99, .int .u32 7, .int .u32 0, .bool true, .bool false, .int .u8 66, .bool false, .bool true, .bool true, .bool false, .int .u32 0, .bool false]
def rv11 : Value := .agg #[.int .i64 11, .string ⟨#[108, 98]⟩, .int .u32 3, .int .u32 0, .int .u32 0, .bool true, .bool false, .int .u8 73, .bool true, .bool true, .bool false, .bool false, .int .u32 0, .bool false]
def rv12 : Value := .agg #[.int .i64 12, .string ⟨#[108, 104]⟩, .int .u32 3, .int .u32 1, .int .u32 0, .bool true, .bool false, .int .u8 73, .bool true, .bool true, .bool false, .bool false, .int .u32 0, .bool false]
def rv13 : Value := .agg #[.int .i64 13, .string ⟨#[108, 119]⟩, .int .u32 3, .int .u32 2, .int .u32 0, .bool true, .bool false, .int .u8 73, .bool true, .bool true, .bool false, .bool false, .int .u32 0, .bool false]
def rv14 : Value := .agg #[.int .i64 14, .string ⟨#[108, 98, 117]⟩, .int .u32 3, .int .u32 4, .int .u32 0, .bool true, .bool false, .int .u8 73, .bool true, .bool true, .bool false, .bool false, .int .u32 0, .bool false]
def rv15 : Value := .agg #[.int .i64 15, .string ⟨#[108, 104, 117]⟩, .int .u32 3, .int .u32 5, .int .u32 0, .bool true, .bool false, .int .u8 73, .bool true, .bool true, .bool false, .bool false, .int .u32 0, .bool false]
def rv16 : Value := .agg #[.int .i64 16, .string ⟨#[115, 98]⟩, .int .u32 35, .int .u32 0, .int .u32 0, .bool true, .bool false, .int .u8 83, .bool false, .bool true, .bool true, .bool false, .int .u32 0, .bool false]
def rv17 : Value := .agg #[.int .i64 17, .string ⟨#[115, 104]⟩, .int .u32 35, .int .u32 1, .int .u32 0, .bool true, .bool false, .int .u8 83, .bool false, .bool true, .bool true, .bool false, .int .u32 0, .bool false]
def rv18 : Value := .agg #[.int .i64 18, .string ⟨#[115, 119]⟩, .int .u32 35, .int .u32 2, .int .u32 0, .bool true, .bool false, .int .u8 83, .bool false, .bool true, .bool true, .bool false, .int .u32 0, .bool false]
def rv19 : Value := .agg #[.int .i64 19, .string ⟨#[97, 100, 100, 105]⟩, .int .u32 19, .int .u32 0, .int .u32 0, .bool true, .bool false, .int .u8 73, .bool true, .bool true, .bool false, .bool false, .int .u32 0, .bool false]
def rv20 : Value := .agg #[.int .i64 20, .string ⟨#[115, 108, 116, 105]⟩, .int .u32 19, .int .u32 2, .int .u32 0, .bool true, .bool false, .int .u8 73, .bool true, .bool true, .bool false, .bool false, .int .u32 0, .bool false]
def rv21 : Value := .agg #[.int .i64 21, .string ⟨#[115, 108, 116, 105, 117]⟩, .int .u32 19, .int .u32 3, .int .u32 0, .bool true, .bool false, .int .u8 73, .bool true, .bool true, .bool false, .bool false, .int .u32 0, .bool false]
def rv22 : Value := .agg #[.int .i64 22, .string ⟨#[120, 111, 114, 105]⟩, .int .u32 19, .int .u32 4, .int .u32 0, .bool true, .bool false, .int .u8 73, .bool true, .bool true, .bool false, .bool false, .int .u32 0, .bool false]
def rv23 : Value := .agg #[.int .i64 23, .string ⟨#[111, 114, 105]⟩, .int .u32 19, .int .u32 6, .int .u32 0, .bool true, .bool false, .int .u8 73, .bool true, .bool true, .bool false, .bool false, .int .u32 0, .bool false]
def rv24 : Value := .agg #[.int .i64 24, .string ⟨#[97, 110, 100, 105]⟩, .int .u32 19, .int .u32 7, .int .u32 0, .bool true, .bool false, .int .u8 73, .bool true, .bool true, .bool false, .bool false, .int .u32 0, .bool false]
def rv25 : Value := .agg #[.int .i64 25, .string ⟨#[115, 108, 108, 105]⟩, .int .u32 19, .int .u32 1, .int .u32 0, .bool true, .bool true, .int .u8 90, .bool true, .bool true, .bool false, .bool false, .int .u32 0, .bool false]
def rv26 : Value := .agg #[.int .i64 26, .string ⟨#[115, 114, 108, 105]⟩, .int .u32 19, .int .u32 5, .int .u32 0, .bool true, .bool true, .int .u8 90, .bool true, .bool true, .bool false, .bool false, .int .u32 0, .bool false]
def rv27 : Value := .agg #[.int .i64 27, .string ⟨#[115, 114, 97, 105]⟩, .int .u32 19, .int .u32 5, .int .u32 32, .bool true, .bool true, .int .u8 90, .bool true, .bool true, .bool false, .bool false, .int .u32 0, .bool false]
def rv28 : Value := .agg #[.int .i64 28, .string ⟨#[97, 100, 100]⟩, .int .u32 51, .int .u32 0, .int .u32 0, .bool true, .bool true, .int .u8 0, .bool true, .bool true, .bool true, .bool false, .int .u32 0, .bool false]
def rv29 : Value := .agg #[.int .i64 29, .string ⟨#[115, 117, 98]⟩, .int .u32 51, .int .u32 0, .int .u32 32, .bool true, .bool true, .int .u8 0, .bool true, .bool true, .bool true, .bool false, .int .u32 0, .bool false]
def rv30 : Value := .agg #[.int .i64 30, .string ⟨#[115, 108, 108]⟩, .int .u32 51, .int .u32 1, .int .u32 0, .bool true, .bool true, .int .u8 0, .bool true, .bool true, .bool true, .bool false, .int .u32 0, .bool false]
def rv31 : Value := .agg #[.int .i64 31, .string ⟨#[115, 108, 116]⟩, .int .u32 51, .int .u32 2, .int .u32 0, .bool true, .bool true, .int .u8 0, .bool true, .bool true, .bool true, .bool false, .int .u32 0, .bool false]
def rv32 : Value := .agg #[.int .i64 32, .string ⟨#[115, 108, 116, 117]⟩, .int .u32 51, .int .u32 3, .int .u32 0, .bool true, .bool true, .int .u8 0, .bool true, .bool true, .bool true, .bool false, .int .u32 0, .bool false]
def rv33 : Value := .agg #[.int .i64 33, .string ⟨#[120, 111, 114]⟩, .int .u32 51, .int .u32 4, .int .u32 0, .bool true, .bool true, .int .u8 0, .bool true, .bool true, .bool true, .bool false, .int .u32 0, .bool false]
def rv34 : Value := .agg #[.int .i64 34, .string ⟨#[115, 114, 108]⟩, .int .u32 51, .int .u32 5, .int .u32 0, .bool true, .bool true, .int .u8 0, .bool true, .bool true, .bool true, .bool false, .int .u32 0, .bool false]
def rv35 : Value := .agg #[.int .i64 35, .string ⟨#[115, 114, 97]⟩, .int .u32 51, .int .u32 5, .int .u32 32, .bool true, .bool true, .int .u8 0, .bool true, .bool true, .bool true, .bool false, .int .u32 0, .bool false]
def rv36 : Value := .agg #[.int .i64 36, .string ⟨#[111, 114]⟩, .int .u32 51, .int .u32 6, .int .u32 0, .bool true, .bool true, .int .u8 0, .bool true, .bool true, .bool true, .bool false, .int .u32 0, .bool false]
def rv37 : Value := .agg #[.int .i64 37, .string ⟨#[97, 110, 100]⟩, .int .u32 51, .int .u32 7, .int .u32 0, .bool true, .bool true, .int .u8 0, .bool true, .bool true, .bool true, .bool false, .int .u32 0, .bool false]
def rv38 : Value := .agg #[.int .i64 38, .string ⟨#[102, 101, 110, 99, 101]⟩, .int .u32 15, .int .u32 0, .int .u32 0, .bool true, .bool false, .int .u8 70, .bool false, .bool false, .bool false, .bool false, .int .u32 0, .bool false]
def rv39 : Value := .agg #[.int .i64 39, .string ⟨#[102, 101, 110, 99, 101, 46, 105]⟩, .int .u32 0, .int .u32 0, .int .u32 0, .bool false, .bool false, .int .u8 0, .bool false, .bool false, .bool false, .bool false, .int .u32 4111, .bool false]
def rv40 : Value := .agg #[.int .i64 40, .string ⟨#[101, 99, 97, 108, 108]⟩, .int .u32 0, .int .u32 0, .int .u32 0, .bool false, .bool false, .int .u8 0, .bool false, .bool false, .bool false, .bool false, .int .u32 115, .bool false]
def rv41 : Value := .agg #[.int .i64 41, .string ⟨#[101, 98, 114, 101, 97, 107]⟩, .int .u32 0, .int .u32 0, .int .u32 0, .bool false, .bool false, .int .u8 0, .bool false, .bool false, .bool false, .bool false, .int .u32 1048691, .bool false]
def rv42 : Value := .agg #[.int .i64 42, .string ⟨#[109, 114, 101, 116]⟩, .int .u32 0, .int .u32 0, .int .u32 0, .bool false, .bool false, .int .u8 0, .bool false, .bool false, .bool false, .bool false, .int .u32 807403635, .bool false]
def rv43 : Value := .agg #[.int .i64 43, .string ⟨#[119, 102, 105]⟩, .int .u32 0, .int .u32 0, .int .u32 0, .bool false, .bool false, .int .u8 0, .bool false, .bool false, .bool false, .bool false, .int .u32 273678451, .bool false]
def rv44 : Value := .agg #[.int .i64 44, .string ⟨#[115, 102, 101, 110, 99, 101, 46, 118, 109, 97]⟩, .int .u32 115, .int .u32 0, .int .u32 9, .bool true, .bool true, .int .u8 0, .bool false, .bool true, .bool true, .bool false, .int .u32 0, .bool false]
def rv45 : Value := .agg #[.int .i64 45, .string ⟨#[99, 115, 114, 114, 119]⟩, .int .u32 115, .int .u32 1, .int .u32 0, .bool true, .bool false, .int .u8 0, .bool true, .bool true, .bool false, .bool true, .int .u32 0, .bool false]
def rv46 : Value := .agg #[.int .i64 46, .string ⟨#[99, 115, 114, 114, 115]⟩, .int .u32 115, .int .u32 2, .int .u32 0, .bool true, .bool false, .int .u8 0, .bool true, .bool true, .bool false, .bool true, .int .u32 0, .bool false]
def rv47 : Value := .agg #[.int .i64 47, .string ⟨#[99, 115, 114, 114, 99]⟩, .int .u32 115, .int .u32 3, .int .u32 0, .bool true, .bool false, .int .u8 0, .bool true, .bool true, .bool false, .bool true, .int .u32 0, .bool false]
def rv48 : Value := .agg #[.int .i64 48, .string ⟨#[99, 115, 114, 114, 119, 105]⟩, .int .u32 115, .int .u32 5, .int .u32 0, .bool true, .bool false, .int .u8 67, .bool true, .bool false, .bool false, .bool true, .int .u32 0, .bool false]
def rv49 : Value := .agg #[.int .i64 49, .string ⟨#[99, 115, 114, 114, 115, 105]⟩, .int .u32 115, .int .u32 6, .int .u32 0, .bool true, .bool false, .int .u8 67, .bool true, .bool false, .bool false, .bool true, .int .u32 0, .bool false]
def rv50 : Value := .agg #[.int .i64 50, .string ⟨#[99, 115, 114, 114, 99, 105]⟩, .int .u32 115, .int .u32 7, .int .u32 0, .bool true, .bool false, .int .u8 67, .bool true, .bool false, .bool false, .bool true, .int .u32 0, .bool false]
def rv51 : Value := .agg #[.int .i64 51, .string ⟨#[109, 117, 108]⟩, .int .u32 51, .int .u32 0, .int .u32 1, .bool true, .bool true, .int .u8 0, .bool true, .bool true, .bool true, .bool false, .int .u32 0, .bool false]
def rv52 : Value := .agg #[.int .i64 52, .string ⟨#[109, 117, 108, 104]⟩, .int .u32 51, .int .u32 1, .int .u32 1, .bool true, .bool true, .int .u8 0, .bool true, .bool true, .bool true, .bool false, .int .u32 0, .bool false]
def rv53 : Value := .agg #[.int .i64 53, .string ⟨#[109, 117, 108, 104, 115, 117]⟩, .int .u32 51, .int .u32 2, .int .u32 1, .bool true, .bool true, .int .u8 0, .bool true, .bool true, .bool true, .bool false, .int .u32 0, .bool false]
def rv54 : Value := .agg #[.int .i64 54, .string ⟨#[109, 117, 108, 104, 117]⟩, .int .u32 51, .int .u32 3, .int .u32 1, .bool true, .bool true, .int .u8 0, .bool true, .bool true, .bool true, .bool false, .int .u32 0, .bool false]
def rv55 : Value := .agg #[.int .i64 55, .string ⟨#[100, 105, 118]⟩, .int .u32 51, .int .u32 4, .int .u32 1, .bool true, .bool true, .int .u8 0, .bool true, .bool true, .bool true, .bool false, .int .u32 0, .bool false]
def rv56 : Value := .agg #[.int .i64 56, .string ⟨#[100, 105, 118, 117]⟩, .int .u32 51, .int .u32 5, .int .u32 1, .bool true, .bool true, .int .u8 0, .bool true, .bool true, .bool true, .bool false, .int .u32 0, .bool false]
def rv57 : Value := .agg #[.int .i64 57, .string ⟨#[114, 101, 109]⟩, .int .u32 51, .int .u32 6, .int .u32 1, .bool true, .bool true, .int .u8 0, .bool true, .bool true, .bool true, .bool false, .int .u32 0, .bool false]
def rv58 : Value := .agg #[.int .i64 58, .string ⟨#[114, 101, 109, 117]⟩, .int .u32 51, .int .u32 7, .int .u32 1, .bool true, .bool true, .int .u8 0, .bool true, .bool true, .bool true, .bool false, .int .u32 0, .bool false]
def rv59 : Value := .agg #[.int .i64 59, .string ⟨#[108, 114, 46, 119]⟩, .int .u32 47, .int .u32 2, .int .u32 2, .bool true, .bool true, .int .u8 0, .bool true, .bool true, .bool false, .bool false, .int .u32 0, .bool true]
def rv60 : Value := .agg #[.int .i64 60, .string ⟨#[115, 99, 46, 119]⟩, .int .u32 47, .int .u32 2, .int .u32 3, .bool true, .bool true, .int .u8 0, .bool true, .bool true, .bool true, .bool false, .int .u32 0, .bool true]
def rv61 : Value := .agg #[.int .i64 61, .string ⟨#[97, 109, 111, 115, 119, 97, 112, 46, 119]⟩, .int .u32 47, .int .u32 2, .int .u32 1, .bool true, .bool true, .int .u8 0, .bool true, .bool true, .bool true, .bool false, .int .u32 0, .bool true]
def rv62 : Value := .agg #[.int .i64 62, .string ⟨#[97, 109, 111, 97, 100, 100, 46, 119]⟩, .int .u32 47, .int .u32 2, .int .u32 0, .bool true, .bool true, .int .u8 0, .bool true, .bool true, .bool true, .bool false, .int .u32 0, .bool true]
def rv63 : Value := .agg #[.int .i64 63, .string ⟨#[97, 109, 111, 120, 111, 114, 46, 119]⟩, .int .u32 47, .int .u32 2, .int .u32 4, .bool true, .bool true, .int .u8 0, .bool true, .bool true, .bool true, .bool false, .int .u32 0, .bool true]
def rv64 : Value := .agg #[.int .i64 64, .string ⟨#[97, 109, 111, 97, 110, 100, 46, 119]⟩, .int .u32 47, .int .u32 2, .int .u32 12, .bool true, .bool true, .int .u8 0, .bool true, .bool true, .bool true, .bool false, .int .u32 0, .bool true]
def rv65 : Value := .agg #[.int .i64 65, .string ⟨#[97, 109, 111, 111, 114, 46, 119]⟩, .int .u32 47, .int .u32 2, .int .u32 8, .bool true, .bool true, .int .u8 0, .bool true, .bool true, .bool true, .bool false, .int .u32 0, .bool true]
def rv66 : Value := .agg #[.int .i64 66, .string ⟨#[97, 109, 111, 109, 105, 110, 46, 119]⟩, .int .u32 47, .int .u32 2, .int .u32 16, .bool true, .bool true, .int .u8 0, .bool true, .bool true, .bool true, .bool false, .int .u32 0, .bool true]
def rv67 : Value := .agg #[.int .i64 67, .string ⟨#[97, 109, 111, 109, 97, 120, 46, 119]⟩, .int .u32 47, .int .u32 2, .int .u32 20, .bool true, .bool true, .int .u8 0, .bool true, .bool true, .bool true, .bool false, .int .u32 0, .bool true]
def rv68 : Value := .agg #[.int .i64 68, .string ⟨#[97, 109, 111, 109, 105, 110, 117, 46, 119]⟩, .int .u32 47, .int .u32 2, .int .u32 24, .bool true, .bool true, .int .u8 0, .bool true, .bool true, .bool true, .bool false, .int .u32 0, .bool true]
def rv69 : Value := .agg #[.int .i64 69, .string ⟨#[97, 109, 111, 109, 97, 120, 117, 46, 119]⟩, .int .u32 47, .int .u32 2, .int .u32 28, .bool true, .bool true, .int .u8 0, .bool true, .bool true, .bool true, .bool false, .int .u32 0, .bool true]
def rowVals : List Value := [rv1, rv2, rv3, rv4, rv5, rv6, rv7, rv8, rv9, rv10, rv11, rv12, rv13, rv14, rv15, rv16, rv17, rv18, rv19, rv20, rv21, rv22, rv23, rv24, rv25, rv26, rv27, rv28, rv29, rv30, rv31, rv32, rv33, rv34, rv35, rv36, rv37, rv38, rv39, rv40, rv41, rv42, rv43, rv44, rv45, rv46, rv47, rv48, rv49, rv50, rv51, rv52, rv53, rv54, rv55, rv56, rv57, rv58, rv59, rv60, rv61, rv62, rv63, rv64, rv65, rv66, rv67, rv68, rv69]

theorem row_1 (w : World) : Calls Try.prog 48 #[.int .i64 1, .string ⟨#[108, 117, 105]⟩, .int .i64 55, .int .i64 (-1), .int .i64 (-1), .int .u8 85, .string ⟨#[100]⟩] w fun e w' => e = .returned rv1 ∧ Below w.heap.size w w' :=
  (row_ff 1 55 (-1) (-1) 85 _ _ (by decide) (by decide) (by decide) w).mono fun e w' ⟨h, hb⟩ => ⟨h.trans (by kernel_rfl), hb⟩

theorem row_2 (w : World) : Calls Try.prog 48 #[.int .i64 2, .string ⟨#[97, 117, 105, 112, 99]⟩, .int .i64 23, .int .i64 (-1), .int .i64 (-1), .int .u8 85, .string ⟨#[100]⟩] w fun e w' => e = .returned rv2 ∧ Below w.heap.size w w' :=
  (row_ff 2 23 (-1) (-1) 85 _ _ (by decide) (by decide) (by decide) w).mono fun e w' ⟨h, hb⟩ => ⟨h.trans (by kernel_rfl), hb⟩

theorem row_3 (w : World) : Calls Try.prog 48 #[.int .i64 3, .string ⟨#[106, 97, 108]⟩, .int .i64 111, .int .i64 (-1), .int .i64 (-1), .int .u8 74, .string ⟨#[100]⟩] w fun e w' => e = .returned rv3 ∧ Below w.heap.size w w' :=
  (row_ff 3 111 (-1) (-1) 74 _ _ (by decide) (by decide) (by decide) w).mono fun e w' ⟨h, hb⟩ => ⟨h.trans (by kernel_rfl), hb⟩

theorem row_4 (w : World) : Calls Try.prog 48 #[.int .i64 4, .string ⟨#[106, 97, 108, 114]⟩, .int .i64 103, .int .i64 (0), .int .i64 (-1), .int .u8 73, .string ⟨#[100, 97]⟩] w fun e w' => e = .returned rv4 ∧ Below w.heap.size w w' :=
  (row_tf 4 103 (0) (-1) 73 _ _ (by decide) (by decide) (by decide) w).mono fun e w' ⟨h, hb⟩ => ⟨h.trans (by kernel_rfl), hb⟩

theorem row_5 (w : World) : Calls Try.prog 48 #[.int .i64 5, .string ⟨#[98, 101, 113]⟩, .int .i64 99, .int .i64 (0), .int .i64 (-1), .int .u8 66, .string ⟨#[97, 98]⟩] w fun e w' => e = .returned rv5 ∧ Below w.heap.size w w' :=
  (row_tf 5 99 (0) (-1) 66 _ _ (by decide) (by decide) (by decide) w).mono fun e w' ⟨h, hb⟩ => ⟨h.trans (by kernel_rfl), hb⟩

theorem row_6 (w : World) : Calls Try.prog 48 #[.int .i64 6, .string ⟨#[98, 110, 101]⟩, .int .i64 99, .int .i64 (1), .int .i64 (-1), .int .u8 66, .string ⟨#[97, 98]⟩] w fun e w' => e = .returned rv6 ∧ Below w.heap.size w w' :=
  (row_tf 6 99 (1) (-1) 66 _ _ (by decide) (by decide) (by decide) w).mono fun e w' ⟨h, hb⟩ => ⟨h.trans (by kernel_rfl), hb⟩

theorem row_7 (w : World) : Calls Try.prog 48 #[.int .i64 7, .string ⟨#[98, 108, 116]⟩, .int .i64 99, .int .i64 (4), .int .i64 (-1), .int .u8 66, .string ⟨#[97, 98]⟩] w fun e w' => e = .returned rv7 ∧ Below w.heap.size w w' :=
  (row_tf 7 99 (4) (-1) 66 _ _ (by decide) (by decide) (by decide) w).mono fun e w' ⟨h, hb⟩ => ⟨h.trans (by kernel_rfl), hb⟩

theorem row_8 (w : World) : Calls Try.prog 48 #[.int .i64 8, .string ⟨#[98, 103, 101]⟩, .int .i64 99, .int .i64 (5), .int .i64 (-1), .int .u8 66, .string ⟨#[97, 98]⟩] w fun e w' => e = .returned rv8 ∧ Below w.heap.size w w' :=
  (row_tf 8 99 (5) (-1) 66 _ _ (by decide) (by decide) (by decide) w).mono fun e w' ⟨h, hb⟩ => ⟨h.trans (by kernel_rfl), hb⟩

theorem row_9 (w : World) : Calls Try.prog 48 #[.int .i64 9, .string ⟨#[98, 108, 116, 117]⟩, .int .i64 99, .int .i64 (6), .int .i64 (-1), .int .u8 66, .string ⟨#[97, 98]⟩] w fun e w' => e = .returned rv9 ∧ Below w.heap.size w w' :=
  (row_tf 9 99 (6) (-1) 66 _ _ (by decide) (by decide) (by decide) w).mono fun e w' ⟨h, hb⟩ => ⟨h.trans (by kernel_rfl), hb⟩

theorem row_10 (w : World) : Calls Try.prog 48 #[.int .i64 10, .string ⟨#[98, 103, 101, 117]⟩, .int .i64 99, .int .i64 (7), .int .i64 (-1), .int .u8 66, .string ⟨#[97, 98]⟩] w fun e w' => e = .returned rv10 ∧ Below w.heap.size w w' :=
  (row_tf 10 99 (7) (-1) 66 _ _ (by decide) (by decide) (by decide) w).mono fun e w' ⟨h, hb⟩ => ⟨h.trans (by kernel_rfl), hb⟩

theorem row_11 (w : World) : Calls Try.prog 48 #[.int .i64 11, .string ⟨#[108, 98]⟩, .int .i64 3, .int .i64 (0), .int .i64 (-1), .int .u8 73, .string ⟨#[100, 97]⟩] w fun e w' => e = .returned rv11 ∧ Below w.heap.size w w' :=
  (row_tf 11 3 (0) (-1) 73 _ _ (by decide) (by decide) (by decide) w).mono fun e w' ⟨h, hb⟩ => ⟨h.trans (by kernel_rfl), hb⟩

theorem row_12 (w : World) : Calls Try.prog 48 #[.int .i64 12, .string ⟨#[108, 104]⟩, .int .i64 3, .int .i64 (1), .int .i64 (-1), .int .u8 73, .string ⟨#[100, 97]⟩] w fun e w' => e = .returned rv12 ∧ Below w.heap.size w w' :=
  (row_tf 12 3 (1) (-1) 73 _ _ (by decide) (by decide) (by decide) w).mono fun e w' ⟨h, hb⟩ => ⟨h.trans (by kernel_rfl), hb⟩

theorem row_13 (w : World) : Calls Try.prog 48 #[.int .i64 13, .string ⟨#[108, 119]⟩, .int .i64 3, .int .i64 (2), .int .i64 (-1), .int .u8 73, .string ⟨#[100, 97]⟩] w fun e w' => e = .returned rv13 ∧ Below w.heap.size w w' :=
  (row_tf 13 3 (2) (-1) 73 _ _ (by decide) (by decide) (by decide) w).mono fun e w' ⟨h, hb⟩ => ⟨h.trans (by kernel_rfl), hb⟩

theorem row_14 (w : World) : Calls Try.prog 48 #[.int .i64 14, .string ⟨#[108, 98, 117]⟩, .int .i64 3, .int .i64 (4), .int .i64 (-1), .int .u8 73, .string ⟨#[100, 97]⟩] w fun e w' => e = .returned rv14 ∧ Below w.heap.size w w' :=
  (row_tf 14 3 (4) (-1) 73 _ _ (by decide) (by decide) (by decide) w).mono fun e w' ⟨h, hb⟩ => ⟨h.trans (by kernel_rfl), hb⟩

theorem row_15 (w : World) : Calls Try.prog 48 #[.int .i64 15, .string ⟨#[108, 104, 117]⟩, .int .i64 3, .int .i64 (5), .int .i64 (-1), .int .u8 73, .string ⟨#[100, 97]⟩] w fun e w' => e = .returned rv15 ∧ Below w.heap.size w w' :=
  (row_tf 15 3 (5) (-1) 73 _ _ (by decide) (by decide) (by decide) w).mono fun e w' ⟨h, hb⟩ => ⟨h.trans (by kernel_rfl), hb⟩

theorem row_16 (w : World) : Calls Try.prog 48 #[.int .i64 16, .string ⟨#[115, 98]⟩, .int .i64 35, .int .i64 (0), .int .i64 (-1), .int .u8 83, .string ⟨#[97, 98]⟩] w fun e w' => e = .returned rv16 ∧ Below w.heap.size w w' :=
  (row_tf 16 35 (0) (-1) 83 _ _ (by decide) (by decide) (by decide) w).mono fun e w' ⟨h, hb⟩ => ⟨h.trans (by kernel_rfl), hb⟩

theorem row_17 (w : World) : Calls Try.prog 48 #[.int .i64 17, .string ⟨#[115, 104]⟩, .int .i64 35, .int .i64 (1), .int .i64 (-1), .int .u8 83, .string ⟨#[97, 98]⟩] w fun e w' => e = .returned rv17 ∧ Below w.heap.size w w' :=
  (row_tf 17 35 (1) (-1) 83 _ _ (by decide) (by decide) (by decide) w).mono fun e w' ⟨h, hb⟩ => ⟨h.trans (by kernel_rfl), hb⟩

theorem row_18 (w : World) : Calls Try.prog 48 #[.int .i64 18, .string ⟨#[115, 119]⟩, .int .i64 35, .int .i64 (2), .int .i64 (-1), .int .u8 83, .string ⟨#[97, 98]⟩] w fun e w' => e = .returned rv18 ∧ Below w.heap.size w w' :=
  (row_tf 18 35 (2) (-1) 83 _ _ (by decide) (by decide) (by decide) w).mono fun e w' ⟨h, hb⟩ => ⟨h.trans (by kernel_rfl), hb⟩

theorem row_19 (w : World) : Calls Try.prog 48 #[.int .i64 19, .string ⟨#[97, 100, 100, 105]⟩, .int .i64 19, .int .i64 (0), .int .i64 (-1), .int .u8 73, .string ⟨#[100, 97]⟩] w fun e w' => e = .returned rv19 ∧ Below w.heap.size w w' :=
  (row_tf 19 19 (0) (-1) 73 _ _ (by decide) (by decide) (by decide) w).mono fun e w' ⟨h, hb⟩ => ⟨h.trans (by kernel_rfl), hb⟩

theorem row_20 (w : World) : Calls Try.prog 48 #[.int .i64 20, .string ⟨#[115, 108, 116, 105]⟩, .int .i64 19, .int .i64 (2), .int .i64 (-1), .int .u8 73, .string ⟨#[100, 97]⟩] w fun e w' => e = .returned rv20 ∧ Below w.heap.size w w' :=
  (row_tf 20 19 (2) (-1) 73 _ _ (by decide) (by decide) (by decide) w).mono fun e w' ⟨h, hb⟩ => ⟨h.trans (by kernel_rfl), hb⟩

theorem row_21 (w : World) : Calls Try.prog 48 #[.int .i64 21, .string ⟨#[115, 108, 116, 105, 117]⟩, .int .i64 19, .int .i64 (3), .int .i64 (-1), .int .u8 73, .string ⟨#[100, 97]⟩] w fun e w' => e = .returned rv21 ∧ Below w.heap.size w w' :=
  (row_tf 21 19 (3) (-1) 73 _ _ (by decide) (by decide) (by decide) w).mono fun e w' ⟨h, hb⟩ => ⟨h.trans (by kernel_rfl), hb⟩

theorem row_22 (w : World) : Calls Try.prog 48 #[.int .i64 22, .string ⟨#[120, 111, 114, 105]⟩, .int .i64 19, .int .i64 (4), .int .i64 (-1), .int .u8 73, .string ⟨#[100, 97]⟩] w fun e w' => e = .returned rv22 ∧ Below w.heap.size w w' :=
  (row_tf 22 19 (4) (-1) 73 _ _ (by decide) (by decide) (by decide) w).mono fun e w' ⟨h, hb⟩ => ⟨h.trans (by kernel_rfl), hb⟩

theorem row_23 (w : World) : Calls Try.prog 48 #[.int .i64 23, .string ⟨#[111, 114, 105]⟩, .int .i64 19, .int .i64 (6), .int .i64 (-1), .int .u8 73, .string ⟨#[100, 97]⟩] w fun e w' => e = .returned rv23 ∧ Below w.heap.size w w' :=
  (row_tf 23 19 (6) (-1) 73 _ _ (by decide) (by decide) (by decide) w).mono fun e w' ⟨h, hb⟩ => ⟨h.trans (by kernel_rfl), hb⟩

theorem row_24 (w : World) : Calls Try.prog 48 #[.int .i64 24, .string ⟨#[97, 110, 100, 105]⟩, .int .i64 19, .int .i64 (7), .int .i64 (-1), .int .u8 73, .string ⟨#[100, 97]⟩] w fun e w' => e = .returned rv24 ∧ Below w.heap.size w w' :=
  (row_tf 24 19 (7) (-1) 73 _ _ (by decide) (by decide) (by decide) w).mono fun e w' ⟨h, hb⟩ => ⟨h.trans (by kernel_rfl), hb⟩

theorem row_25 (w : World) : Calls Try.prog 48 #[.int .i64 25, .string ⟨#[115, 108, 108, 105]⟩, .int .i64 19, .int .i64 (1), .int .i64 (0), .int .u8 90, .string ⟨#[100, 97]⟩] w fun e w' => e = .returned rv25 ∧ Below w.heap.size w w' :=
  (row_tt 25 19 (1) (0) 90 _ _ (by decide) (by decide) (by decide) w).mono fun e w' ⟨h, hb⟩ => ⟨h.trans (by kernel_rfl), hb⟩

theorem row_26 (w : World) : Calls Try.prog 48 #[.int .i64 26, .string ⟨#[115, 114, 108, 105]⟩, .int .i64 19, .int .i64 (5), .int .i64 (0), .int .u8 90, .string ⟨#[100, 97]⟩] w fun e w' => e = .returned rv26 ∧ Below w.heap.size w w' :=
  (row_tt 26 19 (5) (0) 90 _ _ (by decide) (by decide) (by decide) w).mono fun e w' ⟨h, hb⟩ => ⟨h.trans (by kernel_rfl), hb⟩

theorem row_27 (w : World) : Calls Try.prog 48 #[.int .i64 27, .string ⟨#[115, 114, 97, 105]⟩, .int .i64 19, .int .i64 (5), .int .i64 (32), .int .u8 90, .string ⟨#[100, 97]⟩] w fun e w' => e = .returned rv27 ∧ Below w.heap.size w w' :=
  (row_tt 27 19 (5) (32) 90 _ _ (by decide) (by decide) (by decide) w).mono fun e w' ⟨h, hb⟩ => ⟨h.trans (by kernel_rfl), hb⟩

theorem row_28 (w : World) : Calls Try.prog 48 #[.int .i64 28, .string ⟨#[97, 100, 100]⟩, .int .i64 51, .int .i64 (0), .int .i64 (0), .int .u8 0, .string ⟨#[100, 97, 98]⟩] w fun e w' => e = .returned rv28 ∧ Below w.heap.size w w' :=
  (row_tt 28 51 (0) (0) 0 _ _ (by decide) (by decide) (by decide) w).mono fun e w' ⟨h, hb⟩ => ⟨h.trans (by kernel_rfl), hb⟩

theorem row_29 (w : World) : Calls Try.prog 48 #[.int .i64 29, .string ⟨#[115, 117, 98]⟩, .int .i64 51, .int .i64 (0), .int .i64 (32), .int .u8 0, .string ⟨#[100, 97, 98]⟩] w fun e w' => e = .returned rv29 ∧ Below w.heap.size w w' :=
  (row_tt 29 51 (0) (32) 0 _ _ (by decide) (by decide) (by decide) w).mono fun e w' ⟨h, hb⟩ => ⟨h.trans (by kernel_rfl), hb⟩

theorem row_30 (w : World) : Calls Try.prog 48 #[.int .i64 30, .string ⟨#[115, 108, 108]⟩, .int .i64 51, .int .i64 (1), .int .i64 (0), .int .u8 0, .string ⟨#[100, 97, 98]⟩] w fun e w' => e = .returned rv30 ∧ Below w.heap.size w w' :=
  (row_tt 30 51 (1) (0) 0 _ _ (by decide) (by decide) (by decide) w).mono fun e w' ⟨h, hb⟩ => ⟨h.trans (by kernel_rfl), hb⟩

theorem row_31 (w : World) : Calls Try.prog 48 #[.int .i64 31, .string ⟨#[115, 108, 116]⟩, .int .i64 51, .int .i64 (2), .int .i64 (0), .int .u8 0, .string ⟨#[100, 97, 98]⟩] w fun e w' => e = .returned rv31 ∧ Below w.heap.size w w' :=
  (row_tt 31 51 (2) (0) 0 _ _ (by decide) (by decide) (by decide) w).mono fun e w' ⟨h, hb⟩ => ⟨h.trans (by kernel_rfl), hb⟩

theorem row_32 (w : World) : Calls Try.prog 48 #[.int .i64 32, .string ⟨#[115, 108, 116, 117]⟩, .int .i64 51, .int .i64 (3), .int .i64 (0), .int .u8 0, .string ⟨#[100, 97, 98]⟩] w fun e w' => e = .returned rv32 ∧ Below w.heap.size w w' :=
  (row_tt 32 51 (3) (0) 0 _ _ (by decide) (by decide) (by decide) w).mono fun e w' ⟨h, hb⟩ => ⟨h.trans (by kernel_rfl), hb⟩

theorem row_33 (w : World) : Calls Try.prog 48 #[.int .i64 33, .string ⟨#[120, 111, 114]⟩, .int .i64 51, .int .i64 (4), .int .i64 (0), .int .u8 0, .string ⟨#[100, 97, 98]⟩] w fun e w' => e = .returned rv33 ∧ Below w.heap.size w w' :=
  (row_tt 33 51 (4) (0) 0 _ _ (by decide) (by decide) (by decide) w).mono fun e w' ⟨h, hb⟩ => ⟨h.trans (by kernel_rfl), hb⟩

theorem row_34 (w : World) : Calls Try.prog 48 #[.int .i64 34, .string ⟨#[115, 114, 108]⟩, .int .i64 51, .int .i64 (5), .int .i64 (0), .int .u8 0, .string ⟨#[100, 97, 98]⟩] w fun e w' => e = .returned rv34 ∧ Below w.heap.size w w' :=
  (row_tt 34 51 (5) (0) 0 _ _ (by decide) (by decide) (by decide) w).mono fun e w' ⟨h, hb⟩ => ⟨h.trans (by kernel_rfl), hb⟩

theorem row_35 (w : World) : Calls Try.prog 48 #[.int .i64 35, .string ⟨#[115, 114, 97]⟩, .int .i64 51, .int .i64 (5), .int .i64 (32), .int .u8 0, .string ⟨#[100, 97, 98]⟩] w fun e w' => e = .returned rv35 ∧ Below w.heap.size w w' :=
  (row_tt 35 51 (5) (32) 0 _ _ (by decide) (by decide) (by decide) w).mono fun e w' ⟨h, hb⟩ => ⟨h.trans (by kernel_rfl), hb⟩

theorem row_36 (w : World) : Calls Try.prog 48 #[.int .i64 36, .string ⟨#[111, 114]⟩, .int .i64 51, .int .i64 (6), .int .i64 (0), .int .u8 0, .string ⟨#[100, 97, 98]⟩] w fun e w' => e = .returned rv36 ∧ Below w.heap.size w w' :=
  (row_tt 36 51 (6) (0) 0 _ _ (by decide) (by decide) (by decide) w).mono fun e w' ⟨h, hb⟩ => ⟨h.trans (by kernel_rfl), hb⟩

theorem row_37 (w : World) : Calls Try.prog 48 #[.int .i64 37, .string ⟨#[97, 110, 100]⟩, .int .i64 51, .int .i64 (7), .int .i64 (0), .int .u8 0, .string ⟨#[100, 97, 98]⟩] w fun e w' => e = .returned rv37 ∧ Below w.heap.size w w' :=
  (row_tt 37 51 (7) (0) 0 _ _ (by decide) (by decide) (by decide) w).mono fun e w' ⟨h, hb⟩ => ⟨h.trans (by kernel_rfl), hb⟩

theorem row_38 (w : World) : Calls Try.prog 48 #[.int .i64 38, .string ⟨#[102, 101, 110, 99, 101]⟩, .int .i64 15, .int .i64 (0), .int .i64 (-1), .int .u8 70, .string ⟨#[]⟩] w fun e w' => e = .returned rv38 ∧ Below w.heap.size w w' :=
  (row_tf 38 15 (0) (-1) 70 _ _ (by decide) (by decide) (by decide) w).mono fun e w' ⟨h, hb⟩ => ⟨h.trans (by kernel_rfl), hb⟩

theorem row_39 (w : World) : Calls Try.prog 49 #[.int .i64 39, .string ⟨#[102, 101, 110, 99, 101, 46, 105]⟩, .int .u32 4111] w fun e w' => e = .returned rv39 ∧ Below w.heap.size w w' := whole_any _ _ _ w

theorem row_40 (w : World) : Calls Try.prog 49 #[.int .i64 40, .string ⟨#[101, 99, 97, 108, 108]⟩, .int .u32 115] w fun e w' => e = .returned rv40 ∧ Below w.heap.size w w' := whole_any _ _ _ w

theorem row_41 (w : World) : Calls Try.prog 49 #[.int .i64 41, .string ⟨#[101, 98, 114, 101, 97, 107]⟩, .int .u32 1048691] w fun e w' => e = .returned rv41 ∧ Below w.heap.size w w' := whole_any _ _ _ w

theorem row_42 (w : World) : Calls Try.prog 49 #[.int .i64 42, .string ⟨#[109, 114, 101, 116]⟩, .int .u32 807403635] w fun e w' => e = .returned rv42 ∧ Below w.heap.size w w' := whole_any _ _ _ w

theorem row_43 (w : World) : Calls Try.prog 49 #[.int .i64 43, .string ⟨#[119, 102, 105]⟩, .int .u32 273678451] w fun e w' => e = .returned rv43 ∧ Below w.heap.size w w' := whole_any _ _ _ w

theorem row_44 (w : World) : Calls Try.prog 48 #[.int .i64 44, .string ⟨#[115, 102, 101, 110, 99, 101, 46, 118, 109, 97]⟩, .int .i64 115, .int .i64 (0), .int .i64 (9), .int .u8 0, .string ⟨#[97, 98]⟩] w fun e w' => e = .returned rv44 ∧ Below w.heap.size w w' :=
  (row_tt 44 115 (0) (9) 0 _ _ (by decide) (by decide) (by decide) w).mono fun e w' ⟨h, hb⟩ => ⟨h.trans (by kernel_rfl), hb⟩

theorem row_45 (w : World) : Calls Try.prog 48 #[.int .i64 45, .string ⟨#[99, 115, 114, 114, 119]⟩, .int .i64 115, .int .i64 (1), .int .i64 (-1), .int .u8 0, .string ⟨#[100, 97, 99]⟩] w fun e w' => e = .returned rv45 ∧ Below w.heap.size w w' :=
  (row_tf 45 115 (1) (-1) 0 _ _ (by decide) (by decide) (by decide) w).mono fun e w' ⟨h, hb⟩ => ⟨h.trans (by kernel_rfl), hb⟩

theorem row_46 (w : World) : Calls Try.prog 48 #[.int .i64 46, .string ⟨#[99, 115, 114, 114, 115]⟩, .int .i64 115, .int .i64 (2), .int .i64 (-1), .int .u8 0, .string ⟨#[100, 97, 99]⟩] w fun e w' => e = .returned rv46 ∧ Below w.heap.size w w' :=
  (row_tf 46 115 (2) (-1) 0 _ _ (by decide) (by decide) (by decide) w).mono fun e w' ⟨h, hb⟩ => ⟨h.trans (by kernel_rfl), hb⟩

theorem row_47 (w : World) : Calls Try.prog 48 #[.int .i64 47, .string ⟨#[99, 115, 114, 114, 99]⟩, .int .i64 115, .int .i64 (3), .int .i64 (-1), .int .u8 0, .string ⟨#[100, 97, 99]⟩] w fun e w' => e = .returned rv47 ∧ Below w.heap.size w w' :=
  (row_tf 47 115 (3) (-1) 0 _ _ (by decide) (by decide) (by decide) w).mono fun e w' ⟨h, hb⟩ => ⟨h.trans (by kernel_rfl), hb⟩

theorem row_48 (w : World) : Calls Try.prog 48 #[.int .i64 48, .string ⟨#[99, 115, 114, 114, 119, 105]⟩, .int .i64 115, .int .i64 (5), .int .i64 (-1), .int .u8 67, .string ⟨#[100, 99]⟩] w fun e w' => e = .returned rv48 ∧ Below w.heap.size w w' :=
  (row_tf 48 115 (5) (-1) 67 _ _ (by decide) (by decide) (by decide) w).mono fun e w' ⟨h, hb⟩ => ⟨h.trans (by kernel_rfl), hb⟩

theorem row_49 (w : World) : Calls Try.prog 48 #[.int .i64 49, .string ⟨#[99, 115, 114, 114, 115, 105]⟩, .int .i64 115, .int .i64 (6), .int .i64 (-1), .int .u8 67, .string ⟨#[100, 99]⟩] w fun e w' => e = .returned rv49 ∧ Below w.heap.size w w' :=
  (row_tf 49 115 (6) (-1) 67 _ _ (by decide) (by decide) (by decide) w).mono fun e w' ⟨h, hb⟩ => ⟨h.trans (by kernel_rfl), hb⟩

theorem row_50 (w : World) : Calls Try.prog 48 #[.int .i64 50, .string ⟨#[99, 115, 114, 114, 99, 105]⟩, .int .i64 115, .int .i64 (7), .int .i64 (-1), .int .u8 67, .string ⟨#[100, 99]⟩] w fun e w' => e = .returned rv50 ∧ Below w.heap.size w w' :=
  (row_tf 50 115 (7) (-1) 67 _ _ (by decide) (by decide) (by decide) w).mono fun e w' ⟨h, hb⟩ => ⟨h.trans (by kernel_rfl), hb⟩

theorem row_51 (w : World) : Calls Try.prog 48 #[.int .i64 51, .string ⟨#[109, 117, 108]⟩, .int .i64 51, .int .i64 (0), .int .i64 (1), .int .u8 0, .string ⟨#[100, 97, 98]⟩] w fun e w' => e = .returned rv51 ∧ Below w.heap.size w w' :=
  (row_tt 51 51 (0) (1) 0 _ _ (by decide) (by decide) (by decide) w).mono fun e w' ⟨h, hb⟩ => ⟨h.trans (by kernel_rfl), hb⟩

theorem row_52 (w : World) : Calls Try.prog 48 #[.int .i64 52, .string ⟨#[109, 117, 108, 104]⟩, .int .i64 51, .int .i64 (1), .int .i64 (1), .int .u8 0, .string ⟨#[100, 97, 98]⟩] w fun e w' => e = .returned rv52 ∧ Below w.heap.size w w' :=
  (row_tt 52 51 (1) (1) 0 _ _ (by decide) (by decide) (by decide) w).mono fun e w' ⟨h, hb⟩ => ⟨h.trans (by kernel_rfl), hb⟩

theorem row_53 (w : World) : Calls Try.prog 48 #[.int .i64 53, .string ⟨#[109, 117, 108, 104, 115, 117]⟩, .int .i64 51, .int .i64 (2), .int .i64 (1), .int .u8 0, .string ⟨#[100, 97, 98]⟩] w fun e w' => e = .returned rv53 ∧ Below w.heap.size w w' :=
  (row_tt 53 51 (2) (1) 0 _ _ (by decide) (by decide) (by decide) w).mono fun e w' ⟨h, hb⟩ => ⟨h.trans (by kernel_rfl), hb⟩

theorem row_54 (w : World) : Calls Try.prog 48 #[.int .i64 54, .string ⟨#[109, 117, 108, 104, 117]⟩, .int .i64 51, .int .i64 (3), .int .i64 (1), .int .u8 0, .string ⟨#[100, 97, 98]⟩] w fun e w' => e = .returned rv54 ∧ Below w.heap.size w w' :=
  (row_tt 54 51 (3) (1) 0 _ _ (by decide) (by decide) (by decide) w).mono fun e w' ⟨h, hb⟩ => ⟨h.trans (by kernel_rfl), hb⟩

theorem row_55 (w : World) : Calls Try.prog 48 #[.int .i64 55, .string ⟨#[100, 105, 118]⟩, .int .i64 51, .int .i64 (4), .int .i64 (1), .int .u8 0, .string ⟨#[100, 97, 98]⟩] w fun e w' => e = .returned rv55 ∧ Below w.heap.size w w' :=
  (row_tt 55 51 (4) (1) 0 _ _ (by decide) (by decide) (by decide) w).mono fun e w' ⟨h, hb⟩ => ⟨h.trans (by kernel_rfl), hb⟩

theorem row_56 (w : World) : Calls Try.prog 48 #[.int .i64 56, .string ⟨#[100, 105, 118, 117]⟩, .int .i64 51, .int .i64 (5), .int .i64 (1), .int .u8 0, .string ⟨#[100, 97, 98]⟩] w fun e w' => e = .returned rv56 ∧ Below w.heap.size w w' :=
  (row_tt 56 51 (5) (1) 0 _ _ (by decide) (by decide) (by decide) w).mono fun e w' ⟨h, hb⟩ => ⟨h.trans (by kernel_rfl), hb⟩

theorem row_57 (w : World) : Calls Try.prog 48 #[.int .i64 57, .string ⟨#[114, 101, 109]⟩, .int .i64 51, .int .i64 (6), .int .i64 (1), .int .u8 0, .string ⟨#[100, 97, 98]⟩] w fun e w' => e = .returned rv57 ∧ Below w.heap.size w w' :=
  (row_tt 57 51 (6) (1) 0 _ _ (by decide) (by decide) (by decide) w).mono fun e w' ⟨h, hb⟩ => ⟨h.trans (by kernel_rfl), hb⟩

theorem row_58 (w : World) : Calls Try.prog 48 #[.int .i64 58, .string ⟨#[114, 101, 109, 117]⟩, .int .i64 51, .int .i64 (7), .int .i64 (1), .int .u8 0, .string ⟨#[100, 97, 98]⟩] w fun e w' => e = .returned rv58 ∧ Below w.heap.size w w' :=
  (row_tt 58 51 (7) (1) 0 _ _ (by decide) (by decide) (by decide) w).mono fun e w' ⟨h, hb⟩ => ⟨h.trans (by kernel_rfl), hb⟩

theorem row_59 (w : World) : Calls Try.prog 48 #[.int .i64 59, .string ⟨#[108, 114, 46, 119]⟩, .int .i64 47, .int .i64 (2), .int .i64 (2), .int .u8 0, .string ⟨#[100, 97, 112]⟩] w fun e w' => e = .returned rv59 ∧ Below w.heap.size w w' :=
  (row_tt 59 47 (2) (2) 0 _ _ (by decide) (by decide) (by decide) w).mono fun e w' ⟨h, hb⟩ => ⟨h.trans (by kernel_rfl), hb⟩

theorem row_60 (w : World) : Calls Try.prog 48 #[.int .i64 60, .string ⟨#[115, 99, 46, 119]⟩, .int .i64 47, .int .i64 (2), .int .i64 (3), .int .u8 0, .string ⟨#[100, 97, 98, 112]⟩] w fun e w' => e = .returned rv60 ∧ Below w.heap.size w w' :=
  (row_tt 60 47 (2) (3) 0 _ _ (by decide) (by decide) (by decide) w).mono fun e w' ⟨h, hb⟩ => ⟨h.trans (by kernel_rfl), hb⟩

theorem row_61 (w : World) : Calls Try.prog 48 #[.int .i64 61, .string ⟨#[97, 109, 111, 115, 119, 97, 112, 46, 119]⟩, .int .i64 47, .int .i64 (2), .int .i64 (1), .int .u8 0, .string ⟨#[100, 97, 98, 112]⟩] w fun e w' => e = .returned rv61 ∧ Below w.heap.size w w' :=
  (row_tt 61 47 (2) (1) 0 _ _ (by decide) (by decide) (by decide) w).mono fun e w' ⟨h, hb⟩ => ⟨h.trans (by kernel_rfl), hb⟩

theorem row_62 (w : World) : Calls Try.prog 48 #[.int .i64 62, .string ⟨#[97, 109, 111, 97, 100, 100, 46, 119]⟩, .int .i64 47, .int .i64 (2), .int .i64 (0), .int .u8 0, .string ⟨#[100, 97, 98, 112]⟩] w fun e w' => e = .returned rv62 ∧ Below w.heap.size w w' :=
  (row_tt 62 47 (2) (0) 0 _ _ (by decide) (by decide) (by decide) w).mono fun e w' ⟨h, hb⟩ => ⟨h.trans (by kernel_rfl), hb⟩

theorem row_63 (w : World) : Calls Try.prog 48 #[.int .i64 63, .string ⟨#[97, 109, 111, 120, 111, 114, 46, 119]⟩, .int .i64 47, .int .i64 (2), .int .i64 (4), .int .u8 0, .string ⟨#[100, 97, 98, 112]⟩] w fun e w' => e = .returned rv63 ∧ Below w.heap.size w w' :=
  (row_tt 63 47 (2) (4) 0 _ _ (by decide) (by decide) (by decide) w).mono fun e w' ⟨h, hb⟩ => ⟨h.trans (by kernel_rfl), hb⟩

theorem row_64 (w : World) : Calls Try.prog 48 #[.int .i64 64, .string ⟨#[97, 109, 111, 97, 110, 100, 46, 119]⟩, .int .i64 47, .int .i64 (2), .int .i64 (12), .int .u8 0, .string ⟨#[100, 97, 98, 112]⟩] w fun e w' => e = .returned rv64 ∧ Below w.heap.size w w' :=
  (row_tt 64 47 (2) (12) 0 _ _ (by decide) (by decide) (by decide) w).mono fun e w' ⟨h, hb⟩ => ⟨h.trans (by kernel_rfl), hb⟩

theorem row_65 (w : World) : Calls Try.prog 48 #[.int .i64 65, .string ⟨#[97, 109, 111, 111, 114, 46, 119]⟩, .int .i64 47, .int .i64 (2), .int .i64 (8), .int .u8 0, .string ⟨#[100, 97, 98, 112]⟩] w fun e w' => e = .returned rv65 ∧ Below w.heap.size w w' :=
  (row_tt 65 47 (2) (8) 0 _ _ (by decide) (by decide) (by decide) w).mono fun e w' ⟨h, hb⟩ => ⟨h.trans (by kernel_rfl), hb⟩

theorem row_66 (w : World) : Calls Try.prog 48 #[.int .i64 66, .string ⟨#[97, 109, 111, 109, 105, 110, 46, 119]⟩, .int .i64 47, .int .i64 (2), .int .i64 (16), .int .u8 0, .string ⟨#[100, 97, 98, 112]⟩] w fun e w' => e = .returned rv66 ∧ Below w.heap.size w w' :=
  (row_tt 66 47 (2) (16) 0 _ _ (by decide) (by decide) (by decide) w).mono fun e w' ⟨h, hb⟩ => ⟨h.trans (by kernel_rfl), hb⟩

theorem row_67 (w : World) : Calls Try.prog 48 #[.int .i64 67, .string ⟨#[97, 109, 111, 109, 97, 120, 46, 119]⟩, .int .i64 47, .int .i64 (2), .int .i64 (20), .int .u8 0, .string ⟨#[100, 97, 98, 112]⟩] w fun e w' => e = .returned rv67 ∧ Below w.heap.size w w' :=
  (row_tt 67 47 (2) (20) 0 _ _ (by decide) (by decide) (by decide) w).mono fun e w' ⟨h, hb⟩ => ⟨h.trans (by kernel_rfl), hb⟩

theorem row_68 (w : World) : Calls Try.prog 48 #[.int .i64 68, .string ⟨#[97, 109, 111, 109, 105, 110, 117, 46, 119]⟩, .int .i64 47, .int .i64 (2), .int .i64 (24), .int .u8 0, .string ⟨#[100, 97, 98, 112]⟩] w fun e w' => e = .returned rv68 ∧ Below w.heap.size w w' :=
  (row_tt 68 47 (2) (24) 0 _ _ (by decide) (by decide) (by decide) w).mono fun e w' ⟨h, hb⟩ => ⟨h.trans (by kernel_rfl), hb⟩

theorem row_69 (w : World) : Calls Try.prog 48 #[.int .i64 69, .string ⟨#[97, 109, 111, 109, 97, 120, 117, 46, 119]⟩, .int .i64 47, .int .i64 (2), .int .i64 (28), .int .u8 0, .string ⟨#[100, 97, 98, 112]⟩] w fun e w' => e = .returned rv69 ∧ Below w.heap.size w w' :=
  (row_tt 69 47 (2) (28) 0 _ _ (by decide) (by decide) (by decide) w).mono fun e w' ⟨h, hb⟩ => ⟨h.trans (by kernel_rfl), hb⟩

end Go.Proofs.Ytpapiimiblefaaa

/- What the document's Rows returns. -/
namespace Go.Proofs.Ytpapiimiblefaaa
open Go.ChangeShapes Go.WideShapes Go.ChangeAt Go.RowKit
set_option linter.unusedVariables false
set_option linter.unusedSimpArgs false

theorem Good.cons {P : Program} {n : Nat} {o : Oper} {l : List Oper} {v : Value} {vs : List Value} (hg : o.guard = none) (hd : o.dst = some n) (f : FuncId) (args : Array Value) (hrun : ∀ a : Act, ∀ w, (execOp a.eval o).run P w = .ok (.enter f args) w)
    (hc : ∀ w, Calls P f args w fun e w' => e = .returned v ∧ Below w.heap.size w w') (hr : Good P (n + 1) l vs) : Good P n (o :: l) (v :: vs) := ⟨⟨hg, hd, f, args, hrun, hc⟩, hr⟩
theorem puts_low : ∀ (vs : List Value) (n : Nat) (a : Act) (k : Nat), k < n → (puts a n vs).eval (.tmp k) = a.eval (.tmp k)
  | [], _, _, _, _ => rfl
  | v :: vs, n, a, k, h => by
    rw [puts, puts_low vs (n + 1) _ k (by omega)]
    simp only [Act.eval, Act.put]
    rw [Array.getD_eq_getD_getElem?, Array.getD_eq_getD_getElem?, Array.getElem?_setIfInBounds_ne (by omega)]
theorem puts_at : ∀ (vs : List Value) (n : Nat) (a : Act) (i : Nat) (h : i < vs.length), n + vs.length ≤ a.tmps.size → (puts a n vs).eval (.tmp (n + i)) = vs[i]
  | v :: vs, n, a, 0, _, hs => by
    show (puts (a.put (some n) v) (n + 1) vs).eval (.tmp n) = v
    rw [puts_low vs (n + 1) _ n (by omega)]
    simp only [Act.eval, Act.put]
    rw [Array.getD_eq_getD_getElem?, Array.getElem?_setIfInBounds_self_of_lt (by simp at hs; omega)]
    rfl
  | v :: vs, n, a, i + 1, h, hs => by
    rw [puts, show n + (i + 1) = (n + 1) + i by omega, puts_at vs (n + 1) _ i (by simpa using h) (by simp [Act.put] at hs ⊢; omega)]
    rfl

set_option maxRecDepth 100000 in
set_option maxHeartbeats 6400000 in
theorem rows_any (w : World) : Calls Try.prog 42 #[] w fun e w' => ∃ w1, Below w.heap.size w w1 ∧ e = .returned (.slice (some ⟨w1.heap.size, 0, none⟩) 69 69) ∧ w' = w1.alloc (.cells (rowVals.flatMap fun v => v.cells.toList).toArray 65) := by
  go_enter Try.func42, Try.ntmps42
  generalize hops : (List.toArray (List.append ({ dst := some 1, op := _, type := _, pos := _, after := _, guard := _ } :: _) _) : Array Oper) = ops
  go_wp2
  generalize ops.toList.toArray = OA
  subst hops
  rw [← List.take_append_drop 69 (List.toArray _).toList]
  refine wpList_calls _ rowVals 1 _ w ?good ?rest
  case good =>
    refine Good.cons rfl rfl 48 _ (fun _ _ => by kernel_rfl) row_1 ?_
    refine Good.cons rfl rfl 48 _ (fun _ _ => by kernel_rfl) row_2 ?_
    refine Good.cons rfl rfl 48 _ (fun _ _ => by kernel_rfl) row_3 ?_
    refine Good.cons rfl rfl 48 _ (fun _ _ => by kernel_rfl) row_4 ?_
    refine Good.cons rfl rfl 48 _ (fun _ _ => by kernel_rfl) row_5 ?_
    refine Good.cons rfl rfl 48 _ (fun _ _ => by kernel_rfl) row_6 ?_
    refine Good.cons rfl rfl 48 _ (fun _ _ => by kernel_rfl) row_7 ?_
    refine Good.cons rfl rfl 48 _ (fun _ _ => by kernel_rfl) row_8 ?_
    refine Good.cons rfl rfl 48 _ (fun _ _ => by kernel_rfl) row_9 ?_
    refine Good.cons rfl rfl 48 _ (fun _ _ => by kernel_rfl) row_10 ?_
    refine Good.cons rfl rfl 48 _ (fun _ _ => by kernel_rfl) row_11 ?_
    refine Good.cons rfl rfl 48 _ (fun _ _ => by kernel_rfl) row_12 ?_
    refine Good.cons rfl rfl 48 _ (fun _ _ => by kernel_rfl) row_13 ?_
    refine Good.cons rfl rfl 48 _ (fun _ _ => by kernel_rfl) row_14 ?_
    refine Good.cons rfl rfl 48 _ (fun _ _ => by kernel_rfl) row_15 ?_
    refine Good.cons rfl rfl 48 _ (fun _ _ => by kernel_rfl) row_16 ?_
    refine Good.cons rfl rfl 48 _ (fun _ _ => by kernel_rfl) row_17 ?_
    refine Good.cons rfl rfl 48 _ (fun _ _ => by kernel_rfl) row_18 ?_
    refine Good.cons rfl rfl 48 _ (fun _ _ => by kernel_rfl) row_19 ?_
    refine Good.cons rfl rfl 48 _ (fun _ _ => by kernel_rfl) row_20 ?_
    refine Good.cons rfl rfl 48 _ (fun _ _ => by kernel_rfl) row_21 ?_
    refine Good.cons rfl rfl 48 _ (fun _ _ => by kernel_rfl) row_22 ?_
    refine Good.cons rfl rfl 48 _ (fun _ _ => by kernel_rfl) row_23 ?_
    refine Good.cons rfl rfl 48 _ (fun _ _ => by kernel_rfl) row_24 ?_
    refine Good.cons rfl rfl 48 _ (fun _ _ => by kernel_rfl) row_25 ?_
    refine Good.cons rfl rfl 48 _ (fun _ _ => by kernel_rfl) row_26 ?_
    refine Good.cons rfl rfl 48 _ (fun _ _ => by kernel_rfl) row_27 ?_
    refine Good.cons rfl rfl 48 _ (fun _ _ => by kernel_rfl) row_28 ?_
    refine Good.cons rfl rfl 48 _ (fun _ _ => by kernel_rfl) row_29 ?_
    refine Good.cons rfl rfl 48 _ (fun _ _ => by kernel_rfl) row_30 ?_
    refine Good.cons rfl rfl 48 _ (fun _ _ => by kernel_rfl) row_31 ?_
    refine Good.cons rfl rfl 48 _ (fun _ _ => by kernel_rfl) row_32 ?_
    refine Good.cons rfl rfl 48 _ (fun _ _ => by kernel_rfl) row_33 ?_
    refine Good.cons rfl rfl 48 _ (fun _ _ => by kernel_rfl) row_34 ?_
    refine Good.cons rfl rfl 48 _ (fun _ _ => by kernel_rfl) row_35 ?_
    refine Good.cons rfl rfl 48 _ (fun _ _ => by kernel_rfl) row_36 ?_
    refine Good.cons rfl rfl 48 _ (fun _ _ => by kernel_rfl) row_37 ?_
    refine Good.cons rfl rfl 48 _ (fun _ _ => by kernel_rfl) row_38 ?_
    refine Good.cons rfl rfl 49 _ (fun _ _ => by kernel_rfl) row_39 ?_
    refine Good.cons rfl rfl 49 _ (fun _ _ => by kernel_rfl) row_40 ?_
    refine Good.cons rfl rfl 49 _ (fun _ _ => by kernel_rfl) row_41 ?_
    refine Good.cons rfl rfl 49 _ (fun _ _ => by kernel_rfl) row_42 ?_
    refine Good.cons rfl rfl 49 _ (fun _ _ => by kernel_rfl) row_43 ?_
    refine Good.cons rfl rfl 48 _ (fun _ _ => by kernel_rfl) row_44 ?_
    refine Good.cons rfl rfl 48 _ (fun _ _ => by kernel_rfl) row_45 ?_
    refine Good.cons rfl rfl 48 _ (fun _ _ => by kernel_rfl) row_46 ?_
    refine Good.cons rfl rfl 48 _ (fun _ _ => by kernel_rfl) row_47 ?_
    refine Good.cons rfl rfl 48 _ (fun _ _ => by kernel_rfl) row_48 ?_
    refine Good.cons rfl rfl 48 _ (fun _ _ => by kernel_rfl) row_49 ?_
    refine Good.cons rfl rfl 48 _ (fun _ _ => by kernel_rfl) row_50 ?_
    refine Good.cons rfl rfl 48 _ (fun _ _ => by kernel_rfl) row_51 ?_
    refine Good.cons rfl rfl 48 _ (fun _ _ => by kernel_rfl) row_52 ?_
    refine Good.cons rfl rfl 48 _ (fun _ _ => by kernel_rfl) row_53 ?_
    refine Good.cons rfl rfl 48 _ (fun _ _ => by kernel_rfl) row_54 ?_
    refine Good.cons rfl rfl 48 _ (fun _ _ => by kernel_rfl) row_55 ?_
    refine Good.cons rfl rfl 48 _ (fun _ _ => by kernel_rfl) row_56 ?_
    refine Good.cons rfl rfl 48 _ (fun _ _ => by kernel_rfl) row_57 ?_
    refine Good.cons rfl rfl 48 _ (fun _ _ => by kernel_rfl) row_58 ?_
    refine Good.cons rfl rfl 48 _ (fun _ _ => by kernel_rfl) row_59 ?_
    refine Good.cons rfl rfl 48 _ (fun _ _ => by kernel_rfl) row_60 ?_
    refine Good.cons rfl rfl 48 _ (fun _ _ => by kernel_rfl) row_61 ?_
    refine Good.cons rfl rfl 48 _ (fun _ _ => by kernel_rfl) row_62 ?_
    refine Good.cons rfl rfl 48 _ (fun _ _ => by kernel_rfl) row_63 ?_
    refine Good.cons rfl rfl 48 _ (fun _ _ => by kernel_rfl) row_64 ?_
    refine Good.cons rfl rfl 48 _ (fun _ _ => by kernel_rfl) row_65 ?_
    refine Good.cons rfl rfl 48 _ (fun _ _ => by kernel_rfl) row_66 ?_
    refine Good.cons rfl rfl 48 _ (fun _ _ => by kernel_rfl) row_67 ?_
    refine Good.cons rfl rfl 48 _ (fun _ _ => by kernel_rfl) row_68 ?_
    refine Good.cons rfl rfl 48 _ (fun _ _ => by kernel_rfl) row_69 ?_
    exact trivial
  case rest =>
    intro w1 hb
    refine Great.wpList_buildRows (vs := rowVals) (t := 80) (e := 65) (s := 14) (ix := fun i => 1 + i) (N := w1.heap.size) (dst := some 70) rfl _ rfl rfl rfl Try.underlying80 (by kernel_rfl) (by kernel_rfl) (by decide) (by decide) (by decide) (by kernel_rfl) ?cells ?ev ?next
    case cells =>
      have h : (rowVals.all fun v => v.cells.size == 14) = true := by kernel_rfl
      exact fun v hv => by simpa using List.all_eq_true.1 h v hv
    case ev => exact fun i h => puts_at rowVals 1 _ i h (by decide)
    case next =>
      refine wpList_frame (a' := ⟨#[.slice none 0 0, rv1, rv2, rv3, rv4, rv5, rv6, rv7, rv8, rv9, rv10, rv11, rv12, rv13, rv14, rv15, rv16, rv17, rv18, rv19, rv20, rv21, rv22, rv23, rv24, rv25, rv26, rv27, rv28, rv29, rv30, rv31, rv32, rv33, rv34, rv35, rv36, rv37, rv38, rv39, rv40, rv41, rv42, rv43, rv44, rv45, rv46, rv47, rv48, rv49, rv50, rv51, rv52, rv53, rv54, rv55, rv56, rv57, rv58, rv59, rv60, rv61, rv62, rv63, rv64, rv65, rv66, rv67, rv68, rv69, .slice (some ⟨w1.heap.size, 0, none⟩) 69 69], []⟩) (by kernel_rfl) ?_
      go_wp2
      go_ret
      exact ⟨w1, hb, rfl, rfl⟩
end Go.Proofs.Ytpapiimiblefaaa

/- The names of the instructions, and what Name answers. -/
namespace Go.Proofs.Ytpapiimiblefaaa
open Go.ChangeShapes Go.WideShapes Go.ChangeAt Go.RowKit
set_option linter.unusedVariables false
set_option linter.unusedSimpArgs false

namespace W
def nameL : List (List UInt8) := [[], [108, 117, 105], [97, 117, 105, 112, 99], [106, 97, 108], [106, 97, 108, 114], [98, 101, 113], [98, 110, 101], [98, 108, 116], [98, 103, 101], [98, 108, 116, 117], [98, 103, 101, 117], [108, 98], [108, 104], [108, 119], [108, 98, 117], [108, 104, 117], [115, 98], [115, 104], [115, 119], [97, 100, 100, 105], [115, 108, 116, 105], [115, 108, 116, 105, 117], [120, 111, 114, 105], [111, 114, 105], [97, 110, 100, 105], [115, 108, 108, 105], [115, 114, 108, 105], [115, 114, 97, 105], [97, 100, 100], [115, 117, 98], [115, 108, 108], [115, 108, 116], [115, 108, 116, 117], [120, 111, 114], [115, 114, 108], [115, 114, 97], [111, 114], [97, 110, 100], [102, 101, 110, 99, 101], [102, 101, 110, 99, 101, 46, 105], [101, 99, 97, 108, 108], [101, 98, 114, 101, 97, 107], [109, 114, 101, 116], [119, 102, 105], [115, 102, 101, 110, 99, 101, 46, 118, 109, 97], [99, 115, 114, 114, 119], [99, 115, 114, 114, 115], [99, 115, 114, 114, 99], [99, 115, 114, 114, 119, 105], [99, 115, 114, 114, 115, 105], [99, 115, 114, 114, 99, 105], [109, 117, 108], [109, 117, 108, 104], [109, 117, 108, 104, 115, 117], [109, 117, 108, 104, 117], [100, 105, 118], [100, 105, 118, 117], [114, 101, 109], [114, 101, 109, 117], [108, 114, 46, 119], [115, 99, 46, 119], [97, 109, 111, 115, 119, 97, 112, 46, 119], [97, 109, 111, 97, 100, 100, 46, 119], [97, 109, 111, 120, 111, 114, 46, 119], [97, 109, 111, 97, 110, 100, 46, 119], [97, 109, 111, 111, 114, 46, 119], [97, 109, 111, 109, 105, 110, 46, 119], [97, 109, 111, 109, 97, 120, 46, 119], [97, 109, 111, 109, 105, 110, 117, 46, 119], [97, 109, 111, 109, 97, 120, 117, 46, 119]]
def nameAt (k : Nat) : List UInt8 := nameL.getD k []
def nm (op : Int) : List UInt8 := bif known op then nameAt op.toNat else []
end W
def namesA : Array Value := (W.nameL.map fun l => Value.string ⟨l.toArray⟩).toArray

end Go.Proofs.Ytpapiimiblefaaa

/- The document's Kind. -/
namespace Go.Proofs.Ytpapiimiblefaaa
open Go.ChangeShapes Go.WideShapes Go.ChangeAt Go.RowKit
set_option linter.unusedVariables false
set_option linter.unusedSimpArgs false

end Go.Proofs.Ytpapiimiblefaaa

/- What Uses answers. -/
namespace Go.Proofs.Ytpapiimiblefaaa
open Go.ChangeShapes Go.WideShapes Go.ChangeAt Go.RowKit
set_option linter.unusedVariables false
set_option linter.unusedSimpArgs false
attribute [local go_sem ↓] Go.wp_at_zero Go.wp_at_succ

abbrev SU (w : World) (n : Nat) (s : W.Sh) (w' : World) : Prop :=
  Below w.heap.size w w' ∧ n < w'.heap.size ∧ w'.cell? ⟨n, 0, none⟩ = some (.int .u32 s.fixed) ∧ w'.cell? ⟨n, 1, none⟩ = some (.bool s.rd) ∧ w'.cell? ⟨n, 2, none⟩ = some (.bool s.rs1) ∧ w'.cell? ⟨n, 3, none⟩ = some (.bool s.rs2) ∧ w'.cell? ⟨n, 4, none⟩ = some (.bool s.csr) ∧ w'.cell? ⟨n, 5, none⟩ = some (.bool s.ord) ∧ w'.cell? ⟨n, 6, none⟩ = some (.int .u8 s.fmt) ∧ w'.cell? ⟨n, 7, none⟩ = some (.int .i64 s.low) ∧ w'.cell? ⟨n, 8, none⟩ = some (.int .i64 s.size)
theorem SU.below {w a b : World} {n : Nat} {s : W.Sh} (h : SU w n s a) (hm : Below a.heap.size a b) : SU w n s b := by
  obtain ⟨h1, h2, h3⟩ := h
  have q : ∀ j, b.cell? ⟨n, j, none⟩ = a.cell? ⟨n, j, none⟩ := fun j => hm.cell h2
  refine ⟨h1.trans (hm.mono h1.size), by have := hm.size; omega, ?_⟩
  simp only [q]
  exact h3
theorem SU.start {w w1 : World} {s : W.Sh} {t : TypeId} (hb : Below w.heap.size w w1) :
    SU w w1.heap.size s ((w1.alloc (.cells #[.int .u32 s.fixed, .bool s.rd, .bool s.rs1, .bool s.rs2, .bool s.csr, .bool s.ord, .int .u8 s.fmt, .int .i64 s.low, .int .i64 s.size] t)).drew) := by
  refine SU.below ⟨hb.alloc hb.size _, by simp, ?_⟩ (Below.refl _ _).drew
  simp [go_sem]

end Go.Proofs.Ytpapiimiblefaaa

/- The document's table in memory. -/
namespace Go.Proofs.Ytpapiimiblefaaa
open Go.ChangeShapes Go.WideShapes Go.ChangeAt Go.RowKit
set_option linter.unusedVariables false
set_option linter.unusedSimpArgs false

namespace W
def ocL : List Int := [55, 23, 111, 103, 99, 99, 99, 99, 99, 99, 3, 3, 3, 3, 3, 35, 35, 35, 19, 19, 19, 19, 19, 19, 19, 19, 19, 51, 51, 51, 51, 51, 51, 51, 51, 51, 51, 15, 0, 0, 0, 0, 0, 115, 115, 115, 115, 115, 115, 115, 51, 51, 51, 51, 51, 51, 51, 51, 47, 47, 47, 47, 47, 47, 47, 47, 47, 47, 47]
def f3L : List Int := [0, 0, 0, 0, 0, 1, 4, 5, 6, 7, 0, 1, 2, 4, 5, 0, 1, 2, 0, 2, 3, 4, 6, 7, 1, 5, 5, 0, 0, 1, 2, 3, 4, 5, 5, 6, 7, 0, 0, 0, 0, 0, 0, 0, 1, 2, 3, 5, 6, 7, 0, 1, 2, 3, 4, 5, 6, 7, 2, 2, 2, 2, 2, 2, 2, 2, 2, 2, 2]
def f7L : List Int := [0, 0, 0, 0, 0, 0, 0, 0, 0, 0, 0, 0, 0, 0, 0, 0, 0, 0, 0, 0, 0, 0, 0, 0, 0, 0, 32, 0, 32, 0, 0, 0, 0, 0, 32, 0, 0, 0, 0, 0, 0, 0, 0, 9, 0, 0, 0, 0, 0, 0, 1, 1, 1, 1, 1, 1, 1, 1, 2, 3, 1, 0, 4, 12, 8, 16, 20, 24, 28]
def h3L : List Bool := [false, false, false, true, true, true, true, true, true, true, true, true, true, true, true, true, true, true, true, true, true, true, true, true, true, true, true, true, true, true, true, true, true, true, true, true, true, true, false, false, false, false, false, true, true, true, true, true, true, true, true, true, true, true, true, true, true, true, true, true, true, true, true, true, true, true, true, true, true]
def h7L : List Bool := [false, false, false, false, false, false, false, false, false, false, false, false, false, false, false, false, false, false, false, false, false, false, false, false, true, true, true, true, true, true, true, true, true, true, true, true, true, false, false, false, false, false, false, true, false, false, false, false, false, false, true, true, true, true, true, true, true, true, true, true, true, true, true, true, true, true, true, true, true]
def fmL : List Int := [85, 85, 74, 73, 66, 66, 66, 66, 66, 66, 73, 73, 73, 73, 73, 83, 83, 83, 73, 73, 73, 73, 73, 73, 90, 90, 90, 0, 0, 0, 0, 0, 0, 0, 0, 0, 0, 70, 0, 0, 0, 0, 0, 0, 0, 0, 0, 67, 67, 67, 0, 0, 0, 0, 0, 0, 0, 0, 0, 0, 0, 0, 0, 0, 0, 0, 0, 0, 0]
def whL : List Int := [0, 0, 0, 0, 0, 0, 0, 0, 0, 0, 0, 0, 0, 0, 0, 0, 0, 0, 0, 0, 0, 0, 0, 0, 0, 0, 0, 0, 0, 0, 0, 0, 0, 0, 0, 0, 0, 0, 4111, 115, 1048691, 807403635, 273678451, 0, 0, 0, 0, 0, 0, 0, 0, 0, 0, 0, 0, 0, 0, 0, 0, 0, 0, 0, 0, 0, 0, 0, 0, 0, 0]
/-- A row of the document's table. -/
structure Rw where
  op : Int
  name : List UInt8
  oc : Int
  f3 : Int
  f7 : Int
  h3 : Bool
  h7 : Bool
  fm : Int
  rd : Bool
  rs1 : Bool
  rs2 : Bool
  csr : Bool
  wh : Int
  pair : Bool
def rw (k : Nat) : Rw := ⟨(k : Int) + 1, nameAt (k + 1), ocL.getD k 0, f3L.getD k 0, f7L.getD k 0, h3L.getD k false, h7L.getD k false, fmL.getD k 0, (shp ((k : Int) + 1)).rd, (shp ((k : Int) + 1)).rs1, (shp ((k : Int) + 1)).rs2, (shp ((k : Int) + 1)).csr, whL.getD k 0, (shp ((k : Int) + 1)).ord⟩
end W
def rwA (r : W.Rw) : Array Value := #[.int .i64 r.op, .string ⟨r.name.toArray⟩, .int .u32 r.oc, .int .u32 r.f3, .int .u32 r.f7, .bool r.h3, .bool r.h7, .int .u8 r.fm, .bool r.rd, .bool r.rs1, .bool r.rs2, .bool r.csr, .int .u32 r.wh, .bool r.pair]
def rwV (r : W.Rw) : Value := .agg (rwA r)
theorem rowVals_eq : rowVals = (List.range 69).map fun k => rwV (W.rw k) := by kernel_rfl

/-- The table lies in block g. -/
structure Tb (g : Nat) (wc : World) : Prop where
  lt : g < wc.heap.size
  cells : ∀ k j, k < 69 → j < 14 → wc.cell? ⟨g, k * 14 + j, none⟩ = (rwA (W.rw k))[j]?
theorem Tb.below {g : Nat} {a b : World} (h : Tb g a) (hm : Below a.heap.size a b) : Tb g b :=
  ⟨Nat.lt_of_lt_of_le h.lt hm.size, fun k j hk hj => (hm.cell h.lt).trans (h.cells k j hk hj)⟩
theorem Tb.start (w : World) (t : TypeId) : Tb w.heap.size (w.alloc (.cells (rowVals.flatMap fun v => v.cells.toList).toArray t)) := by
  refine ⟨by simp, fun k j hk hj => ?_⟩
  have hs : ∀ v ∈ rowVals, v.cells.size = 14 := by
    have h : (rowVals.all fun v => v.cells.size == 14) = true := by kernel_rfl
    exact fun v hv => by simpa using List.all_eq_true.1 h v hv
  have e1 := Great.flat_get (s := 14) (by decide) rowVals hs (k * 14 + j)
  rw [show (k * 14 + j) / 14 = k by omega, show (k * 14 + j) % 14 = j by omega] at e1
  have e2 := cell_of_row _ _ (k * 14 + j) (rowVals.flatMap fun v => v.cells.toList).toArray t (0, 0) (heap_alloc_last w _)
  rw [e2, List.getElem?_toArray, e1, rowVals_eq]
  simp [hk]
  rfl
theorem rows_tb (w : World) : Calls Try.prog 42 #[] w fun e w' => ∃ g, e = .returned (.slice (some ⟨g, 0, none⟩) 69 69) ∧ Tb g w' ∧ Below w.heap.size w w' :=
  (rows_any w).mono fun e w' ⟨w1, hb, he, hw⟩ => ⟨w1.heap.size, he, by rw [hw]; exact Tb.start w1 _, by rw [hw]; exact hb.alloc hb.size _⟩

set_option maxRecDepth 100000 in
set_option maxHeartbeats 1600000 in
theorem of_none (op : Int) (h : ¬ (1 ≤ op ∧ op ≤ 69)) (w : World) : Calls Try.prog 31 #[.int .i64 op] w fun e w' => e = .returned (.tuple #[.agg #[.int .i64 0, .string ⟨#[]⟩, .int .u32 0, .int .u32 0, .int .u32 0, .bool false, .bool false, .int .u8 0, .bool false, .bool false, .bool false, .bool false, .int .u32 0, .bool false], .bool false]) ∧ Below w.heap.size w w' := by
  have hb : Below w.heap.size w w := Below.refl _ _
  by_cases h1 : op < 1
  · go_enter Try.func31, Try.ntmps31
    go_wp2
    exact bodyPost_ret (v := .tuple #[.agg #[.int .i64 0, .string ⟨#[]⟩, .int .u32 0, .int .u32 0, .int .u32 0, .bool false, .bool false, .int .u8 0, .bool false, .bool false, .bool false, .bool false, .int .u32 0, .bool false], .bool false]) (by simp [results, Try.results31, go_sem]) rfl ⟨rfl, by repeat (first | exact hb | exact hb.alloc hb.size _)⟩
  · have h2 : 69 < op := by omega
    clear h
    go_enter Try.func31, Try.ntmps31
    go_wp2
    exact bodyPost_ret (v := .tuple #[.agg #[.int .i64 0, .string ⟨#[]⟩, .int .u32 0, .int .u32 0, .int .u32 0, .bool false, .bool false, .int .u8 0, .bool false, .bool false, .bool false, .bool false, .int .u32 0, .bool false], .bool false]) (by simp [results, Try.results31, go_sem]) rfl ⟨rfl, by repeat (first | exact hb | exact hb.alloc hb.size _)⟩

theorem Tb.at {g : Nat} {wc : World} (h : Tb g wc) (j : Nat) (hj : j < 69) : ∃ r : W.Rw, W.rw j = r ∧ r.op = (j : Int) + 1 ∧ wc.cell? ⟨g, j * 14, none⟩ = some (.int .i64 r.op) ∧ wc.cell? ⟨g, j * 14 + 1, none⟩ = some (.string ⟨r.name.toArray⟩) ∧ wc.cell? ⟨g, j * 14 + 2, none⟩ = some (.int .u32 r.oc) ∧ wc.cell? ⟨g, j * 14 + 3, none⟩ = some (.int .u32 r.f3) ∧ wc.cell? ⟨g, j * 14 + 4, none⟩ = some (.int .u32 r.f7) ∧ wc.cell? ⟨g, j * 14 + 5, none⟩ = some (.bool r.h3) ∧ wc.cell? ⟨g, j * 14 + 6, none⟩ = some (.bool r.h7) ∧ wc.cell? ⟨g, j * 14 + 7, none⟩ = some (.int .u8 r.fm) ∧ wc.cell? ⟨g, j * 14 + 8, none⟩ = some (.bool r.rd) ∧ wc.cell? ⟨g, j * 14 + 9, none⟩ = some (.bool r.rs1) ∧ wc.cell? ⟨g, j * 14 + 10, none⟩ = some (.bool r.rs2) ∧ wc.cell? ⟨g, j * 14 + 11, none⟩ = some (.bool r.csr) ∧ wc.cell? ⟨g, j * 14 + 12, none⟩ = some (.int .u32 r.wh) ∧ wc.cell? ⟨g, j * 14 + 13, none⟩ = some (.bool r.pair) := by
  refine ⟨W.rw j, rfl, rfl, ?_⟩
  have c : ∀ i, i < 14 → wc.cell? ⟨g, j * 14 + i, none⟩ = (rwA (W.rw j))[i]? := fun i hi => h.cells j i hj hi
  exact ⟨c 0 (by decide), c 1 (by decide), c 2 (by decide), c 3 (by decide), c 4 (by decide), c 5 (by decide), c 6 (by decide), c 7 (by decide), c 8 (by decide), c 9 (by decide), c 10 (by decide), c 11 (by decide), c 12 (by decide), c 13 (by decide)⟩

set_option maxRecDepth 100000 in
set_option maxHeartbeats 6400000 in
theorem of_some (op : Int) (h1 : 1 ≤ op) (h2 : op ≤ 69) (w : World) : Calls Try.prog 31 #[.int .i64 op] w fun e w' => e = .returned (.tuple #[rwV (W.rw (op.toNat - 1)), .bool true]) ∧ Below w.heap.size w w' := by
  have hb : Below w.heap.size w w := Below.refl _ _
  go_enter Try.func31, Try.ntmps31
  go_wp2_with (go_at_call 42; refine (rows_tb _).mono ?_; rintro e w1 ⟨g, rfl, hT, hm⟩; have HT : Hid (Tb g w1) := hT; have HB : Hid (Below w.heap.size w w1) := (hb.alloc hb.size _).trans (hm.mono (by simp))
               have hlw : w.heap.size < w1.heap.size := by have := hm.size; simp at this; omega
               have z0 : w1.cell? ⟨w.heap.size, 0, none⟩ = some (.int .i64 0) := (hm.cell (by simp)).trans (by simp [go_sem])
               have z1 : w1.cell? ⟨w.heap.size, 1, none⟩ = some (.string ⟨#[]⟩) := (hm.cell (by simp)).trans (by simp [go_sem])
               have z2 : w1.cell? ⟨w.heap.size, 2, none⟩ = some (.int .u32 0) := (hm.cell (by simp)).trans (by simp [go_sem])
               have z3 : w1.cell? ⟨w.heap.size, 3, none⟩ = some (.int .u32 0) := (hm.cell (by simp)).trans (by simp [go_sem])
               have z4 : w1.cell? ⟨w.heap.size, 4, none⟩ = some (.int .u32 0) := (hm.cell (by simp)).trans (by simp [go_sem])
               have z5 : w1.cell? ⟨w.heap.size, 5, none⟩ = some (.bool false) := (hm.cell (by simp)).trans (by simp [go_sem])
               have z6 : w1.cell? ⟨w.heap.size, 6, none⟩ = some (.bool false) := (hm.cell (by simp)).trans (by simp [go_sem])
               have z7 : w1.cell? ⟨w.heap.size, 7, none⟩ = some (.int .u8 0) := (hm.cell (by simp)).trans (by simp [go_sem])
               have z8 : w1.cell? ⟨w.heap.size, 8, none⟩ = some (.bool false) := (hm.cell (by simp)).trans (by simp [go_sem])
               have z9 : w1.cell? ⟨w.heap.size, 9, none⟩ = some (.bool false) := (hm.cell (by simp)).trans (by simp [go_sem])
               have z10 : w1.cell? ⟨w.heap.size, 10, none⟩ = some (.bool false) := (hm.cell (by simp)).trans (by simp [go_sem])
               have z11 : w1.cell? ⟨w.heap.size, 11, none⟩ = some (.bool false) := (hm.cell (by simp)).trans (by simp [go_sem])
               have z12 : w1.cell? ⟨w.heap.size, 12, none⟩ = some (.int .u32 0) := (hm.cell (by simp)).trans (by simp [go_sem])
               have z13 : w1.cell? ⟨w.heap.size, 13, none⟩ = some (.bool false) := (hm.cell (by simp)).trans (by simp [go_sem])
               have hfz : ∀ j, w1.frozen? ⟨w.heap.size, j, none⟩ = false := fun j => by have e := (hm.block w.heap.size (by simp)).trans (heap_alloc_last w _); simp [World.frozen?, e]
               have hgl := hT.lt
               clear hm hT)
  go_loopw [5] (fun i wr => ∃ j : Nat, (j : Int) < op ∧ i = .int .i64 j ∧ wr = w1) (fun i _ => (69 - intOf i).toNat)
  case atStart => exact ⟨0, by omega, rfl, rfl⟩
  case round =>
    obtain ⟨j, hj, rfl, rfl⟩ := hrel
    have hj0 : (0 : Int) ≤ (j : Int) := by omega
    have hj1 : (j : Int) < 69 := by omega
    obtain ⟨r, hr, ho, c0, c1, c2, c3, c4, c5, c6, c7, c8, c9, c10, c11, c12, c13⟩ := HT.out.at j (by omega)
    have HR : Hid (W.rw j = r) := hr
    clear hr
    by_cases he : (j : Int) + 1 = op
    · have hop : Hid (op.toNat - 1 = j) := (by omega : op.toNat - 1 = j)
      have ho' : (r.op == op) = true := by rw [ho, he]; simp
      clear ho
      go_wp2
      have hB : Hid (Below w.heap.size w ((((((((((((((wr.setCell ⟨w.heap.size, 0, none⟩ (.int .i64 r.op)).setCell ⟨w.heap.size, 1, none⟩ (.string ⟨r.name.toArray⟩)).setCell ⟨w.heap.size, 2, none⟩ (.int .u32 r.oc)).setCell ⟨w.heap.size, 3, none⟩ (.int .u32 r.f3)).setCell ⟨w.heap.size, 4, none⟩ (.int .u32 r.f7)).setCell ⟨w.heap.size, 5, none⟩ (.bool r.h3)).setCell ⟨w.heap.size, 6, none⟩ (.bool r.h7)).setCell ⟨w.heap.size, 7, none⟩ (.int .u8 r.fm)).setCell ⟨w.heap.size, 8, none⟩ (.bool r.rd)).setCell ⟨w.heap.size, 9, none⟩ (.bool r.rs1)).setCell ⟨w.heap.size, 10, none⟩ (.bool r.rs2)).setCell ⟨w.heap.size, 11, none⟩ (.bool r.csr)).setCell ⟨w.heap.size, 12, none⟩ (.int .u32 r.wh)).setCell ⟨w.heap.size, 13, none⟩ (.bool r.pair))) :=
        ((((((((((((((HB.out.setCell (Nat.le_refl _) _).setCell (Nat.le_refl _) _).setCell (Nat.le_refl _) _).setCell (Nat.le_refl _) _).setCell (Nat.le_refl _) _).setCell (Nat.le_refl _) _).setCell (Nat.le_refl _) _).setCell (Nat.le_refl _) _).setCell (Nat.le_refl _) _).setCell (Nat.le_refl _) _).setCell (Nat.le_refl _) _).setCell (Nat.le_refl _) _).setCell (Nat.le_refl _) _).setCell (Nat.le_refl _) _)
      exact bodyPost_ret (v := .tuple #[rwV r, .bool true]) (by simp [results, Try.results31, go_sem, z0, z1, z2, z3, z4, z5, z6, z7, z8, z9, z10, z11, z12, z13, rwV, rwA]) rfl ⟨by rw [hop.out, HR.out], hB.out⟩
    · have ho' : (r.op == op) = false := by rw [ho]; simpa using he
      clear ho
      go_wp2
      go_roundw
      case rel => exact ⟨j + 1, by omega, by go_num, trivial⟩
      case measure => simp [intOf]; omega
end Go.Proofs.Ytpapiimiblefaaa

/- What each of the document's own answers of chapter 1 returns: the same as the plain mirrors, for every word. -/
namespace Go.Proofs.Ytpapiimiblefaaa
open Go.ChangeShapes Go.WideShapes Go.ChangeAt Go.RowKit
set_option linter.unusedVariables false

theorem ret_bool {a b : Bool} (h : a = b) : Ending.returned (.bool a) = .returned (.bool b) := by rw [h]

theorem rsign_any (a n : Int) (w : World) (a0 : 0 ≤ a) (a1 : a < 4294967296) :
    Calls Try.prog 57 #[.int .u32 a, .int .i64 n] w fun e w' => e = .returned (.int .u32 (W.sgn a n)) ∧ w = w' := by
  by_cases h1 : n < 1
  · go_enter Try.func57, Try.ntmps57
    go_wp2
    go_ret
    exact ⟨ret_int (by rw [W.sgn, if_pos h1]), rfl⟩
  · by_cases h2 : 31 < n
    · go_enter Try.func57, Try.ntmps57
      go_wp2
      go_ret
      exact ⟨ret_int (by rw [W.sgn, if_neg (by omega), if_pos (by omega)]), rfl⟩
    · have hA := W.and_low a n a0 a1 (by omega) (by omega)
      cases hT : (W.low a n / 2 ^ (n.toNat - 1) == 1)
      · have hR : Hid (W.low a n = W.sgn a n) := W.ref_sgn0 a n a0 a1 (by omega) (by omega) hT
        go_enter Try.func57, Try.ntmps57
        go_wp2
        all_goals
          go_ret
          exact ⟨ret_int hR.out, rfl⟩
      · have hR : Hid (bits .or .u32 (W.low a n) (bits .xor .u32 IntKind.u32.max ((2 ^ n.toNat - 1) % 4294967296)) = W.sgn a n) := W.ref_sgn1 a n a0 a1 (by omega) (by omega) hT
        go_enter Try.func57, Try.ntmps57
        go_wp2
        all_goals
          go_ret
          exact ⟨ret_int hR.out, rfl⟩

theorem rbits_any (a low n : Int) (w : World) (a0 : 0 ≤ a) (a1 : a < 4294967296) :
    Calls Try.prog 56 #[.int .u32 a, .int .i64 low, .int .i64 n] w fun e w' => e = .returned (.int .u32 (W.bitsOf a low n)) ∧ w = w' := by
  by_cases l0 : low < 0
  · go_enter Try.func56, Try.ntmps56
    go_wp2
    go_ret
    exact ⟨ret_int (W.bitsOf_out a low n (by omega)).symm, rfl⟩
  · by_cases l1 : 31 < low
    · go_enter Try.func56, Try.ntmps56
      go_wp2
      go_ret
      exact ⟨ret_int (W.bitsOf_out a low n (by omega)).symm, rfl⟩
    · by_cases n0 : n < 1
      · go_enter Try.func56, Try.ntmps56
        go_wp2
        go_ret
        exact ⟨ret_int (W.bitsOf_out a low n (by omega)).symm, rfl⟩
      · by_cases n1 : 32 ≤ n
        · go_enter Try.func56, Try.ntmps56
          go_wp2
          go_ret
          exact ⟨ret_int (W.bits_big a low n a0 a1 (by omega) (by omega) n1), rfl⟩
        · go_enter Try.func56, Try.ntmps56
          go_wp2
          go_ret
          exact ⟨ret_int (W.bits_small a low n a0 a1 (by omega) (by omega) (by omega) (by omega)), rfl⟩

end Go.Proofs.Ytpapiimiblefaaa

/- What the document's own Place, Imm and Lay return: the same as the plain mirrors, for every word. -/
namespace Go.Proofs.Ytpapiimiblefaaa
open Go.ChangeShapes Go.WideShapes Go.ChangeAt Go.RowKit
set_option linter.unusedVariables false

theorem place_any (v low n : Int) (w : World) (v0 : 0 ≤ v) (v1 : v < 4294967296) :
    Calls Try.prog 50 #[.int .u32 v, .int .i64 low, .int .i64 n] w fun e w' => e = .returned (.int .u32 (W.placed v low n)) ∧ w = w' := by
  cases hw : W.within low n
  · have hr : Hid (W.placed v low n = 0) := by
      have : W.placed v low n = 0 := by unfold W.placed; rw [hw]; rfl
      exact this
    have hn : low < 0 ∨ 31 < low ∨ n < 1 := by
      have h3 : ¬ (0 ≤ low ∧ low ≤ 31 ∧ 1 ≤ n) := by
        intro h; simp [W.within, h] at hw
      omega
    clear hw
    rcases hn with h | h | h
    · go_enter Try.func50, Try.ntmps50
      go_wp2
      go_ret
      exact ⟨ret_int hr.out.symm, rfl⟩
    · go_enter Try.func50, Try.ntmps50
      go_wp2
      all_goals
        go_ret
        exact ⟨ret_int hr.out.symm, rfl⟩
    · go_enter Try.func50, Try.ntmps50
      go_wp2
      all_goals
        go_ret
        exact ⟨ret_int hr.out.symm, rfl⟩
  · have hr : Hid (W.bitsOf v 0 n * 2 ^ low.toNat % 4294967296 = W.placed v low n) := W.placed_ref v low n v0 v1 hw
    have h3 : 0 ≤ low ∧ low ≤ 31 ∧ 1 ≤ n := by simpa [W.within] using hw
    obtain ⟨h1, h2, h3⟩ := h3
    clear hw
    go_enter Try.func50, Try.ntmps50
    go_wp2_with (go_at_call 56; refine (rbits_any _ _ _ _ v0 v1).mono ?_; rintro e w' ⟨rfl, rfl⟩)
    go_ret
    exact ⟨ret_int hr.out, rfl⟩

theorem other_letters (f : Int) (h : ¬ W.isF f) : (f == 73) = false ∧ (f == 83) = false ∧ (f == 66) = false ∧ (f == 85) = false ∧ (f == 74) = false := by
  unfold W.isF at h
  simp only [not_or] at h
  obtain ⟨h1, h2, h3, h4, h5⟩ := h
  exact ⟨by simpa using h1, by simpa using h2, by simpa using h3, by simpa using h4, by simpa using h5⟩

set_option maxHeartbeats 3200000 in
theorem rimm_any (f x : Int) (w : World) (x0 : 0 ≤ x) (x1 : x < 4294967296) :
    Calls Try.prog 51 #[.int .u8 f, .int .u32 x] w fun e w' => e = .returned (.int .u32 (W.imm f x)) ∧ w = w' := by
  by_cases h : W.isF f
  · rcases h with rfl | rfl | rfl | rfl | rfl
    · have hr : Hid (_ = W.imm 73 x) := W.imm_I x x0 x1
      go_enter Try.func51, Try.ntmps51
      go_wp2_with (first | (go_at_call 56; refine (rbits_any _ _ _ _ x0 x1).mono ?_; rintro e w' ⟨rfl, rfl⟩) | (go_at_call 57; refine (rsign_any _ _ _ (W.bitsOf_lt _ _ _).1 (W.bitsOf_lt _ _ _).2).mono ?_; rintro e w' ⟨rfl, rfl⟩))
      go_ret
      exact ⟨ret_int hr.out, rfl⟩
    · have hr : Hid (_ = W.imm 83 x) := W.imm_S x x0 x1
      go_enter Try.func51, Try.ntmps51
      go_wp2_with (first | (go_at_call 56; refine (rbits_any _ _ _ _ x0 x1).mono ?_; rintro e w' ⟨rfl, rfl⟩) | (go_at_call 57; refine (rsign_any _ _ _ (W.or_lt _ _).1 (W.or_lt _ _).2).mono ?_; rintro e w' ⟨rfl, rfl⟩))
      go_ret
      exact ⟨ret_int hr.out, rfl⟩
    · have hr : Hid (_ = W.imm 66 x) := W.imm_B x x0 x1
      go_enter Try.func51, Try.ntmps51
      go_wp2_with (first | (go_at_call 56; refine (rbits_any _ _ _ _ x0 x1).mono ?_; rintro e w' ⟨rfl, rfl⟩) | (go_at_call 57; refine (rsign_any _ _ _ (W.or_lt _ _).1 (W.or_lt _ _).2).mono ?_; rintro e w' ⟨rfl, rfl⟩))
      go_ret
      exact ⟨ret_int hr.out, rfl⟩
    · have hr : Hid (_ = W.imm 85 x) := W.imm_U x x0 x1
      go_enter Try.func51, Try.ntmps51
      go_wp2_with (first | (go_at_call 56; refine (rbits_any _ _ _ _ x0 x1).mono ?_; rintro e w' ⟨rfl, rfl⟩))
      go_ret
      exact ⟨ret_int hr.out, rfl⟩
    · have hr : Hid (_ = W.imm 74 x) := W.imm_J x x0 x1
      go_enter Try.func51, Try.ntmps51
      go_wp2_with (first | (go_at_call 56; refine (rbits_any _ _ _ _ x0 x1).mono ?_; rintro e w' ⟨rfl, rfl⟩) | (go_at_call 57; refine (rsign_any _ _ _ (W.or_lt _ _).1 (W.or_lt _ _).2).mono ?_; rintro e w' ⟨rfl, rfl⟩))
      go_ret
      exact ⟨ret_int hr.out, rfl⟩
  · have hz : Hid (0 = W.imm f x) := by
      have e := layout_other f h
      have : 0 = W.imm f x := by
        unfold W.imm W.sgn
        rw [e.1, if_pos (by decide)]
      exact this
    obtain ⟨e1, e2, e3, e4, e5⟩ := other_letters f h
    clear h
    go_enter Try.func51, Try.ntmps51
    go_wp2
    go_ret
    exact ⟨ret_int hz.out, rfl⟩

theorem lay_split (f x : Int) (hf : W.isF f) : (W.imm f (W.layw f x) != x) = !W.layB f x ∧ W.layV f x = bif W.layB f x then W.layw f x else 0 := by
  have hw := W.wid_in f hf
  have : (W.wid f == 0) = false := by
    have : ¬ W.wid f = 0 := by omega
    simpa using this
  refine ⟨?_, rfl⟩
  unfold W.layB
  rw [this]
  simp [bne]

set_option maxHeartbeats 3200000 in
theorem rlay_any (f x : Int) (w : World) (x0 : 0 ≤ x) (x1 : x < 4294967296) :
    Calls Try.prog 43 #[.int .u8 f, .int .u32 x] w fun e w' => e = .returned (.tuple #[.int .u32 (W.layV f x), .bool (W.layB f x)]) ∧ w = w' := by
  by_cases h : W.isF f
  · rcases h with rfl | rfl | rfl | rfl | rfl
    · have hL : Hid (_ = W.layw 73 x) := W.lay_I x x0 x1
      obtain ⟨hs, hv⟩ := lay_split 73 x (by simp [W.isF])
      have HV : Hid (W.layV 73 x = bif W.layB 73 x then W.layw 73 x else 0) := hv
      clear hv
      rw [← hL.out] at hs
      cases hB : W.layB 73 x
      all_goals
        rw [hB] at hs
        simp only [Bool.not_true, Bool.not_false] at hs
        have HB : Hid (W.layB 73 x = _) := hB
        clear hB
        go_enter Try.func43, Try.ntmps43
        go_wp2_with (first | (go_at_call 50; refine (place_any _ _ _ _ (by omega) (by omega)).mono ?_; rintro e w' ⟨rfl, rfl⟩) | (go_at_call 51; refine (rimm_any _ _ _ (W.placed_lt _ _ _).1 (W.placed_lt _ _ _).2).mono ?_; rintro e w' ⟨rfl, rfl⟩))
        first
        | exact bodyPost_ret (v := .tuple #[.int .u32 0, .bool false]) (by simp [results, Try.results43, go_sem]) rfl ⟨by rw [HV.out, HB.out]; rfl, rfl⟩
        | exact bodyPost_ret (v := .tuple #[.int .u32 _, .bool true]) (by simp [results, Try.results43, go_sem]; rfl) rfl ⟨by rw [HV.out, HB.out, cond_true, ← hL.out], rfl⟩
    · have hL : Hid (_ = W.layw 83 x) := W.lay_S x x0 x1
      obtain ⟨hs, hv⟩ := lay_split 83 x (by simp [W.isF])
      have HV : Hid (W.layV 83 x = bif W.layB 83 x then W.layw 83 x else 0) := hv
      clear hv
      rw [← hL.out] at hs
      cases hB : W.layB 83 x
      all_goals
        rw [hB] at hs
        simp only [Bool.not_true, Bool.not_false] at hs
        have HB : Hid (W.layB 83 x = _) := hB
        clear hB
        go_enter Try.func43, Try.ntmps43
        go_wp2_with (first | (go_at_call 50; refine (place_any _ _ _ _ (by omega) (by omega)).mono ?_; rintro e w' ⟨rfl, rfl⟩) | (go_at_call 51; refine (rimm_any _ _ _ (W.or_lt _ _).1 (W.or_lt _ _).2).mono ?_; rintro e w' ⟨rfl, rfl⟩))
        first
        | exact bodyPost_ret (v := .tuple #[.int .u32 0, .bool false]) (by simp [results, Try.results43, go_sem]) rfl ⟨by rw [HV.out, HB.out]; rfl, rfl⟩
        | exact bodyPost_ret (v := .tuple #[.int .u32 _, .bool true]) (by simp [results, Try.results43, go_sem]; rfl) rfl ⟨by rw [HV.out, HB.out, cond_true, ← hL.out], rfl⟩
    · have hL : Hid (_ = W.layw 66 x) := W.lay_B x x0 x1
      obtain ⟨hs, hv⟩ := lay_split 66 x (by simp [W.isF])
      have HV : Hid (W.layV 66 x = bif W.layB 66 x then W.layw 66 x else 0) := hv
      clear hv
      rw [← hL.out] at hs
      cases hB : W.layB 66 x
      all_goals
        rw [hB] at hs
        simp only [Bool.not_true, Bool.not_false] at hs
        have HB : Hid (W.layB 66 x = _) := hB
        clear hB
        go_enter Try.func43, Try.ntmps43
        go_wp2_with (first | (go_at_call 50; refine (place_any _ _ _ _ (by omega) (by omega)).mono ?_; rintro e w' ⟨rfl, rfl⟩) | (go_at_call 51; refine (rimm_any _ _ _ (W.or_lt _ _).1 (W.or_lt _ _).2).mono ?_; rintro e w' ⟨rfl, rfl⟩))
        first
        | exact bodyPost_ret (v := .tuple #[.int .u32 0, .bool false]) (by simp [results, Try.results43, go_sem]) rfl ⟨by rw [HV.out, HB.out]; rfl, rfl⟩
        | exact bodyPost_ret (v := .tuple #[.int .u32 _, .bool true]) (by simp [results, Try.results43, go_sem]; rfl) rfl ⟨by rw [HV.out, HB.out, cond_true, ← hL.out], rfl⟩
    · have hL : Hid (_ = W.layw 85 x) := W.lay_U x x0 x1
      obtain ⟨hs, hv⟩ := lay_split 85 x (by simp [W.isF])
      have HV : Hid (W.layV 85 x = bif W.layB 85 x then W.layw 85 x else 0) := hv
      clear hv
      rw [← hL.out] at hs
      cases hB : W.layB 85 x
      all_goals
        rw [hB] at hs
        simp only [Bool.not_true, Bool.not_false] at hs
        have HB : Hid (W.layB 85 x = _) := hB
        clear hB
        go_enter Try.func43, Try.ntmps43
        go_wp2_with (first | (go_at_call 50; refine (place_any _ _ _ _ (by omega) (by omega)).mono ?_; rintro e w' ⟨rfl, rfl⟩) | (go_at_call 51; refine (rimm_any _ _ _ (W.placed_lt _ _ _).1 (W.placed_lt _ _ _).2).mono ?_; rintro e w' ⟨rfl, rfl⟩))
        first
        | exact bodyPost_ret (v := .tuple #[.int .u32 0, .bool false]) (by simp [results, Try.results43, go_sem]) rfl ⟨by rw [HV.out, HB.out]; rfl, rfl⟩
        | exact bodyPost_ret (v := .tuple #[.int .u32 _, .bool true]) (by simp [results, Try.results43, go_sem]; rfl) rfl ⟨by rw [HV.out, HB.out, cond_true, ← hL.out], rfl⟩
    · have hL : Hid (_ = W.layw 74 x) := W.lay_J x x0 x1
      obtain ⟨hs, hv⟩ := lay_split 74 x (by simp [W.isF])
      have HV : Hid (W.layV 74 x = bif W.layB 74 x then W.layw 74 x else 0) := hv
      clear hv
      rw [← hL.out] at hs
      cases hB : W.layB 74 x
      all_goals
        rw [hB] at hs
        simp only [Bool.not_true, Bool.not_false] at hs
        have HB : Hid (W.layB 74 x = _) := hB
        clear hB
        go_enter Try.func43, Try.ntmps43
        go_wp2_with (first | (go_at_call 50; refine (place_any _ _ _ _ (by omega) (by omega)).mono ?_; rintro e w' ⟨rfl, rfl⟩) | (go_at_call 51; refine (rimm_any _ _ _ (W.or_lt _ _).1 (W.or_lt _ _).2).mono ?_; rintro e w' ⟨rfl, rfl⟩))
        first
        | exact bodyPost_ret (v := .tuple #[.int .u32 0, .bool false]) (by simp [results, Try.results43, go_sem]) rfl ⟨by rw [HV.out, HB.out]; rfl, rfl⟩
        | exact bodyPost_ret (v := .tuple #[.int .u32 _, .bool true]) (by simp [results, Try.results43, go_sem]; rfl) rfl ⟨by rw [HV.out, HB.out, cond_true, ← hL.out], rfl⟩
  · have hz : Hid (W.layB f x = false) := by
      have e := layout_other f h
      have : W.layB f x = false := by
        unfold W.layB
        rw [e.1]; rfl
      exact this
    have hv : Hid (W.layV f x = 0) := by
      have : W.layV f x = 0 := by
        unfold W.layV
        rw [hz.out]; rfl
      exact this
    obtain ⟨e1, e2, e3, e4, e5⟩ := other_letters f h
    clear h
    go_enter Try.func43, Try.ntmps43
    go_wp2
    exact bodyPost_ret (v := .tuple #[.int .u32 0, .bool false]) (by simp [results, Try.results43, go_sem]) rfl ⟨by rw [hz.out, hv.out], rfl⟩
end Go.Proofs.Ytpapiimiblefaaa
