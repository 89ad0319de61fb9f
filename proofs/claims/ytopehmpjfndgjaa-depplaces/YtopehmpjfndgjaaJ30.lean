/- Texts in one: RowsL, RowsR, RowsA, Names, RKind, Uses. -/
import Derived.Great.BuildSlice
import Derived.Great.CaseRows
import Derived.Deep.RegionHeld3
import Derived.Deep.DrawnRows
import Derived.Test.YtopehmpjfndgjaaJ07
import Derived.Test.YtopehmpjfndgjaaJ15
import Derived.Test.YtopehmpjfndgjaaJ28
import Derived.Test.YtopehmpjfndgjaaJ29
/- A list of calls in one region, each by its contract; and the rows of the document's table. -/
namespace Go.Proofs.Ytopehmpjfndgjaa
open Go.ChangeShapes Go.WideShapes Go.ChangeAt Go.RowKit
set_option linter.unusedVariables false
set_option linter.unusedSimpArgs false

/-- The values in the slots from n on. -/
def puts (a : Act) : Nat → List Value → Act
  | _, [] => a
  | n, v :: vs => puts (a.put (some n) v) (n + 1) vs
/-- Each operation is a call that hands back the value, whatever the frame. -/
def Good (P : Program) : Nat → List Oper → List Value → Prop
  | _, [], [] => True
  | n, o :: l, v :: vs => (o.guard = none ∧ o.dst = some n ∧ ∃ f args, (∀ a : Act, ∀ w, (execOp a.eval o).run P w = .ok (.enter f args) w) ∧ ∀ w, Calls P f args w fun e w' => e = .returned v ∧ Below w.heap.size w w') ∧ Good P (n + 1) l vs
  | _, _, _ => False
theorem wpList_calls {P : Program} {ops : Array Oper} {rest : List Oper} {Q : Exit → Act → World → Prop} : ∀ (l : List Oper) (vs : List Value) (n : Nat) (a : Act) (w : World), Good P n l vs →
    (∀ w', Below w.heap.size w w' → wpList P ops Q rest (puts a n vs) w') → wpList P ops Q (l ++ rest) a w
  | [], [], n, a, w, _, h => h w (Below.refl _ _)
  | o :: l, v :: vs, n, a, w, ⟨⟨hg, hd, f, args, hrun, hc⟩, hr⟩, h => by
    refine wpList_plain hg fun K hK => ?_
    unfold Oper.wp
    rw [hrun, Oper.upon_enter]
    refine (hc w).mono fun e w'' hh => ?_
    obtain ⟨rfl, hb⟩ := hh
    rw [hd]
    exact hK _ _ (wpList_calls l vs (n + 1) _ w'' hr fun w' hb' => h w' (hb.trans (hb'.mono hb.size)))
  | [], _ :: _, _, _, _, hf, _ => absurd hf (by simp [Good])
  | _ :: _, [], _, _, _, hf, _ => absurd hf (by simp [Good])
end Go.Proofs.Ytopehmpjfndgjaa

/- The rows of the document's table, each by its call. -/
namespace Go.Proofs.Ytopehmpjfndgjaa
open Go.ChangeShapes Go.WideShapes Go.ChangeAt Go.RowKit
set_option linter.unusedVariables false
set_option linter.unusedSimpArgs false

theorem whole_any (op x : Int) (nm : ByteArray) (w : World) : Calls Try.prog 49 #[.int .i64 op, .string nm, .int .u32 x] w fun e w' => e = .returned (.agg #[.int .i64 op, .string nm, .int .u32 0, .int .u32 0, .int .u32 0, .bool false, .bool false, .int .u8 0, .bool false, .bool false, .bool false, .bool false, .int .u32 x, .bool false]) ∧ Below w.heap.size w w' := by
  have hb : Below w.heap.size w w := Below.refl _ _
  go_enter Try.func49, Try.ntmps49
  go_wp2
  exact bodyPost_ret (v := .agg #[.int .i64 op, .string nm, .int .u32 0, .int .u32 0, .int .u32 0, .bool false, .bool false, .int .u8 0, .bool false, .bool false, .bool false, .bool false, .int .u32 x, .bool false]) (by simp [results, Try.results49, go_sem]) rfl ⟨rfl, by repeat (first | exact hb | exact hb.alloc hb.size _)⟩

def rv1 : Value := .agg #[.int .i64 1, .string ⟨#[108, 117, 105]⟩, .int .u32 55, .int .u32 0, .int .u32 0, .bool false, .bool false, .int .u8 85, .bool true, .bool false, .bool false, .bool false, .int .u32 0, .bool false]
def rv2 : Value := .agg #[.int .i64 2, .string ⟨#[97, 117, 105, 112, 99]⟩, .int .u32 23, .int .u32 0, .int .u32 0, .bool false, .bool false, .int .u8 85, .bool true, .bool false, .bool false, .bool false, .int .u32 0, .bool false]
def rv3 : Value := .agg #[.int .i64 3, .string ⟨#[106, 97, 108]⟩, .int .u32 111, .int .u32 0, .int .u32 0, .bool false, .bool false, .int .u8 74, .bool true, .bool false, .bool false, .bool false, .int .u32 0, .bool false]
def rv4 : Value := .agg #[.int .i64 4, .string ⟨#[106, 97, 108, 114]⟩, .int .u32 103, .int .u32 0, .int .u32 0, .bool true, .bool false, .int .u8 73, .bool true, .bool true, .bool false, .bool false, .int .u32 0, .bool false]
def rv5 : Value := .agg #[.int .i64 5, .string ⟨#[98, 101, 113]⟩, .int .u32 99, .int .u32 0, .int .u32 0, .bool true, .bool false, .int .u8 66, .bool false, .bool true, .bool true, .bool false, .int .u32 0, .bool false]
def rv6 : Value := .agg #[.int .i64 6, .string ⟨#[98, 110, 101]⟩, .int .u32 99, .int .u32 1, .int .u32 0, .bool true, .bool false, .int .u8 66, .bool false, .bool true, .bool true, .bool false, .int .u32 0, .bool false]
def rv7 : Value := .agg #[.int .i64 7, .string ⟨#[98, 108, 116]⟩, .int .u32 99, .int .u32 4, .int .u32 0, .bool true, .bool false, .int .u8 66, .bool false, .bool true, .bool true, .bool false, .int .u32 0, .bool false]
def rv8 : Value := .agg #[.int .i64 8, .string ⟨#[98, 103, 101]⟩, .int .u32 99, .int .u32 5, .int .u32 0, .bool true, .bool false, .int .u8 66, .bool false, .bool true, .bool true, .bool false, .int .u32 0, .bool false]
def rv9 : Value := .agg #[.int .i64 9, .string ⟨#[98, 108, 116, 117]⟩, .int .u32 99, .int .u32 6, .int .u32 0, .bool true, .bool false, .int .u8 66, .bool false, .bool true, .bool true, .bool false, .int .u32 0, .bool false]
def rv10 : Value := .agg #[.int .i64 10, .string ⟨#[98, 103, 101, 117]⟩, .int .u32 99, .int .u32 7, .int .u32 0, .bool true, .bool false, .int .u8 66, .bool false, .bool true, .bool true, .bool false, .int .u32 0, .bool false]
def rv11 : Value := .agg #[.int .i64 11, .string ⟨#[108, 98]⟩, .int .u32 3, .int .u32 0, .int .u32 0, .bool true, .bool false, .int .u8 73, .bool true, .bool true, .bool false, .bool false, .int .u32 0, .bool false]
def rv12 : Value := .agg #[.int .i64 12, .string ⟨#[108, 104]⟩, .int .u32 3, .int .u32 1, .int .u32 0, .bool true, .bool false, .int .u8 73, .bool true, .bool true, .bool false, .bool false, .int .u32 0, .bool false]
def rv13 : Value := .agg #[.int .i64 13, .string ⟨#[108, 119]⟩, .int .u32 3, .int .u32 2, .int .u32 0, .bool true, .bool false, .int .u8 73, .bool true, .bool true, .bool false, .bool false, .int .u32 0, .bool false]
def rv14 : Value := .agg #[.int .i64 14, .string ⟨#[108, 98, 117]⟩, .int .u32 3, .int .u32 4, .int .u32 0, .bool true, .bool false, .int .u8 73, .bool true, .bool true, .bool false, .bool false, .int .u32 0, .bool false]
def rv15 : Value := .agg #[.int .i64 15, .string ⟨#[108, 104, 117]⟩, .int .u32 3, .int .u32 5, .int .u32 0, .bool true, .bool false, .int .u8 73, .bool true, .bool true, .bool false, .bool false, .int .u32 0, .bool false]
def rv16 : Value := .agg #[.int .i64 16, .string ⟨#[115, 98]⟩, .int .u32 35, .int .u32 0, .int .u32 0, .bool true, .bool false, .int .u8 83, .bool false, .bool true, .bool true, .bool false, .int .u32 0, .bool false]
def rv17 : Value := .agg #[.int .i64 17, .string ⟨#[115, 104]⟩, .int .u32 35, .int .u32 1, .int .u32 0, .bool true, .bool false, .int .u8 83, .bool false, .bool true, .bool true, .bool false, .int .u32 0, .bool false]
def rv18 : Value := .agg #[.int .i64 18, .string ⟨#[115, 119]⟩, .int .u32 35, .int .u32 2, .int .u32 0, .bool true, .bool false, .int .u8 83, .bool false, .bool true, .bool true, .bool false, .int .u32 0, .bool false]
def rv19 : Value := .agg #[.int .i64 19, .string ⟨#[97, 100, 100, 105]⟩, .int .u32 19, .int .u32 0, .int .u32 0, .bool true, .bool false, .int .u8 73, .bool true, .bool true, .bool false, .bool false, .int .u32 0, .bool false]
def rv20 : Value := .agg #[.int .i64 20, .string ⟨#[115, 108, 116, 105]⟩, .int .u32 19, .int .u32 2, .int .u32 0, .bool true, .bool false, .int .u8 73, .bool true, .bool true, .bool false, .bool false, .int .u32 0, .bool false]
def rv21 : Value := .agg #[.int .i64 21, .string ⟨#[115, 108, 116, 105, 117]⟩, .int .u32 19, .int .u32 3, .int .u32 0, .bool true, .bool false, .int .u8 73, .bool true, .bool true, .bool false, .bool false, .int .u32 0, .bool false]
def rv22 : Value := .agg #[.int .i64 22, .string ⟨#[120, 111, 114, 105]⟩, .int .u32 19, .int .u32 4, .int .u32 0, .bool true, .bool false, .int .u8 73, .bool true, .bool true, .bool false, .bool false, .int .u32 0, .bool false]
def rv23 : Value := .agg #[.int .i64 23, .string ⟨#[111, 114, 105]⟩, .int .u32 19, .int .u32 6, .int .u32 0, .bool true, .bool false, .int .u8 73, .bool true, .bool true, .bool false, .bool false, .int .u32 0, .bool false]
def rv24 : Value := .agg #[.int .i64 24, .string ⟨#[97, 110, 100, 105]⟩, .int .u32 19, .int .u32 7, .int .u32 0, .bool true, .bool false, .int .u8 73, .bool true, .bool true, .bool false, .bool false, .int .u32 0, .bool false]
def rv25 : Value := .agg #[.int .i64 25, .string ⟨#[115, 108, 108, 105]⟩, .int .u32 19, .int .u32 1, .int .u32 0, .bool true, .bool true, .int .u8 90, .bool true, .bool true, .bool false, .bool false, .int .u32 0, .bool false]
def rv26 : Value := .agg #[.int .i64 26, .string ⟨#[115, 114, 108, 105]⟩, .int .u32 19, .int .u32 5, .int .u32 0, .bool true, .bool true, .int .u8 90, .bool true, .bool true, .bool false, .bool false, .int .u32 0, .bool false]
def rv27 : Value := .agg #[.int .i64 27, .string ⟨#[115, 114, 97, 105]⟩, .int .u32 19, .int .u32 5, .int .u32 32, .bool true, .bool true, .int .u8 90, .bool true, .bool true, .bool false, .bool false, .int .u32 0, .bool false]
def rv28 : Value := .agg #[.int .i64 28, .string ⟨#[97, 100, 100]⟩, .int .u32 51, .int .u32 0, .int .u32 0, .bool true, .bool true, .int .u8 0, .bool true, .bool true, .bool true, .bool false, .int .u32 0, .bool false]
def rv29 : Value := .agg #[.int .i64 29, .string ⟨#[115, 117, 98]⟩, .int .u32 51, .int .u32 0, .int .u32 32, .bool true, .bool true, .int .u8 0, .bool true, .bool true, .bool true, .bool false, .int .u32 0, .bool false]
def rv30 : Value := .agg #[.int .i64 30, .string ⟨#[115, 108, 108]⟩, .int .u32 51, .int .u32 1, .int .u32 0, .bool true, .bool true, .int .u8 0, .bool true, .bool true, .bool true, .bool false, .int .u32 0, .bool false]
def rv31 : Value := .agg #[.int .i64 31, .string ⟨#[115, 108, 116]⟩, .int .u32 51, .int .u32 2, .int .u32 0, .bool true, .bool true, .int .u8 0, .bool true, .bool true, .bool true, .bool false, .int .u32 0, .bool false]
def rv32 : Value := .agg #[.int .i64 32, .string ⟨#[115, 108, 116, 117]⟩, .int .u32 51, .int .u32 3, .int .u32 0, .bool true, .bool true, .int .u8 0, .bool true, .bool true, .bool true, .bool false, .int .u32 0, .bool false]
def rv33 : Value := .agg #[.int .i64 33, .string ⟨#[120, 111, 114]⟩, .int .u32 51, .int .u32 4, .int .u32 0, .bool true, .bool true, .int .u8 0, .bool true, .bool true, .bool true, .bool false, .int .u32 0, .bool false]
def rv34 : Value := .agg #[.int .i64 34, .string ⟨#[115, 114, 108]⟩, .int .u32 51, .int .u32 5, .int .u32 0, .bool true, .bool true, .int .u8 0, .bool true, .bool true, .bool true, .bool false, .int .u32 0, .bool false]
def rv35 : Value := .agg #[.int .i64 35, .string ⟨#[115, 114, 97]⟩, .int .u32 51, .int .u32 5, .int .u32 32, .bool true, .bool true, .int .u8 0, .bool true, .bool true, .bool true, .bool false, .int .u32 0, .bool false]
def rv36 : Value := .agg #[.int .i64 36, .string ⟨#[111, 114]⟩, .int .u32 51, .int .u32 6, .int .u32 0, .bool true, .bool true, .int .u8 0, .bool true, .bool true, .bool true, .bool false, .int .u32 0, .bool false]
def rv37 : Value := .agg #[.int .i64 37, .string ⟨#[97, 110, 100]⟩, .int .u32 51, .int .u32 7, .int .u32 0, .bool true, .bool true, .int .u8 0, .bool true, .bool true, .bool true, .bool false, .int .u32 0, .bool false]
def rv38 : Value := .agg #[.int .i64 38, .string ⟨#[102, 101, 110, 99, 101]⟩, .int .u32 15, .int .u32 0, .int .u32 0, .bool true, .bool false, .int .u8 70, .bool false, .bool false, .bool false, .bool false, .int .u32 0, .bool false]
def rv39 : Value := .agg #[.int .i64 39, .string ⟨#[102, 101, 110, 99, 101, 46, 105]⟩, .int .u32 0, .int .u32 0, .int .u32 0, .bool false, .bool false, .int .u8 0, .bool false, .bool false, .bool false, .bool false, .int .u32 4111, .bool false]
def rv40 : Value := .agg #[.int .i64 40, .string ⟨#[101, 99, 97, 108, 108]⟩, .int .u32 0, .int .u32 0, .int .u32 0, .bool false, .bool false, .int .u8 0, .bool false, .bool false, .bool false, .bool false, .int .u32 115, .bool false]
def rv41 : Value := .agg #[.int .i64 41, .string ⟨#[101, 98, 114, 101, 97, 107]⟩, .int .u32 0, .int .u32 0, .int .u32 0, .bool false, .bool false, .int .u8 0, .bool false, .bool false, .bool false, .bool false, .int .u32 1048691, .bool false]
def rv42 : Value := .agg #[.int .i64 42, .string ⟨#[109, 114, 101, 116]⟩, .int .u32 0, .int .u32 0, .int .u32 0, .bool false, .bool false, .int .u8 0, .bool false, .bool false, .bool false, .bool false, .int .u32 807403635, .bool false]
def rv43 : Value := .agg #[.int .i64 43, .string ⟨#[119, 102, 105]⟩, .int .u32 0, .int .u32 0, .int .u32 0, .bool false, .bool false, .int .u8 0, .bool false, .bool false, .bool false, .bool false, .int .u32 273678451, .bool false]
def rv44 : Value := .agg #[.int .i64 44, .string ⟨#[115, 102, 101, 110, 99, 101, 46, 118, 109, 97]⟩, .int .u32 115, .int .u32 0, .int .u32 9, .bool true, .bool true, .int .u8 0, .bool false, .bool true, .bool true, .bool false, .int .u32 0, .bool false]
def rv45 : Value := .agg #[.int .i64 45, .string ⟨#[99, 115, 114, 114, 119]⟩, .int .u32 115, .int .u32 1, .int .u32 0, .bool true, .bool false, .int .u8 0, .bool true, .bool true, .bool false, .bool true, .int .u32 0, .bool false]
def rv46 : Value := .agg #[.int .i64 46, .string ⟨#[99, 115, 114, 114, 115]⟩, .int .u32 115, .int .u32 2, .int .u32 0, .bool true, .bool false, .int .u8 0, .bool true, .bool true, .bool false, .bool true, .int .u32 0, .bool false]
def rv47 : Value := .agg #[.int .i64 47, .string ⟨#[99, 115, 114, 114, 99]⟩, .int .u32 115, .int .u32 3, .int .u32 0, .bool true, .bool false, .int .u8 0, .bool true, .bool true, .bool false, .bool true, .int .u32 0, .bool false]
def rv48 : Value := .agg #[.int .i64 48, .string ⟨#[99, 115, 114, 114, 119, 105]⟩, .int .u32 115, .int .u32 5, .int .u32 0, .bool true, .bool false, .int .u8 67, .bool true, .bool false, .bool false, .bool true, .int .u32 0, .bool false]
def rv49 : Value := .agg #[.int .i64 49, .string ⟨#[99, 115, 114, 114, 115, 105]⟩, .int .u32 115, .int .u32 6, .int .u32 0, .bool true, .bool false, .int .u8 67, .bool true, .bool false, .bool false, .bool true, .int .u32 0, .bool false]
def rv50 : Value := .agg #[.int .i64 50, .string ⟨#[99, 115, 114, 114, 99, 105]⟩, .int .u32 115, .int .u32 7, .int .u32 0, .bool true, .bool false, .int .u8 67, .bool true, .bool false, .bool false, .bool true, .int .u32 0, .bool false]
def rv51 : Value := .agg #[.int .i64 51, .string ⟨#[109, 117, 108]⟩, .int .u32 51, .int .u32 0, .int .u32 1, .bool true, .bool true, .int .u8 0, .bool true, .bool true, .bool true, .bool false, .int .u32 0, .bool false]
def rv52 : Value := .agg #[.int .i64 52, .string ⟨#[109, 117, 108, 104]⟩, .int .u32 51, .int .u32 1, .int .u32 1, .bool true, .bool true, .int .u8 0, .bool true, .bool true, .bool true, .bool false, .int .u32 0, .bool false]
def rv53 : Value := .agg #[.int .i64 53, .string ⟨#[109, 117, 108, 104, 115, 117]⟩, .int .u32 51, .int .u32 2, .int .u32 1, .bool true, .bool true, .int .u8 0, .bool true, .bool true, .bool true, .bool false, .int .u32 0, .bool false]
def rv54 : Value := .agg #[.int .i64 54, .string ⟨#[109, 117, 108, 104, 117]⟩, .int .u32 51, .int .u32 3, .int .u32 1, .bool true, .bool true, .int .u8 0, .bool true, .bool true, .bool true, .bool false, .int .u32 0, .bool false]
def rv55 : Value := .agg #[.int .i64 55, .string ⟨#[100, 105, 118]⟩, .int .u32 51, .int .u32 4, .int .u32 1, .bool true, .bool true, .int .u8 0, .bool true, .bool true, .bool true, .bool false, .int .u32 0, .bool false]
def rv56 : Value := .agg #[.int .i64 56, .string ⟨#[100, 105, 118, 117]⟩, .int .u32 51, .int .u32 5, .int .u32 1, .bool true, .bool true, .int .u8 0, .bool true, .bool true, .bool true, .bool false, .int .u32 0, .bool false]
def rv57 : Value := .agg #[.int .i64 57, .string ⟨#[114, 101, 109]⟩, .int .u32 51, .int .u32 6, .int .u32 1, .bool true, .bool true, .int .u8 0, .bool true, .bool true, .bool true, .bool false, .int .u32 0, .bool false]
def rv58 : Value := .agg #[.int .i64 58, .string ⟨#[114, 101, 109, 117]⟩, .int .u32 51, .int .u32 7, .int .u32 1, .bool true, .bool true, .int .u8 0, .bool true, .bool true, .bool true, .bool false, .int .u32 0, .bool false]
def rv59 : Value := .agg #[.int .i64 59, .string ⟨#[108, 114, 46, 119]⟩, .int .u32 47, .int .u32 2, .int .u32 2, .bool true, .bool true, .int .u8 0, .bool true, .bool true, .bool false, .bool false, .int .u32 0, .bool true]
def rv60 : Value := .agg #[.int .i64 60, .string ⟨#[115, 99, 46, 119]⟩, .int .u32 47, .int .u32 2, .int .u32 3, .bool true, .bool true, .int .u8 0, .bool true, .bool true, .bool true, .bool false, .int .u32 0, .bool true]
def rv61 : Value := .agg #[.int .i64 61, .string ⟨#[97, 109, 111, 115, 119, 97, 112, 46, 119]⟩, .int .u32 47, .int .u32 2, .int .u32 1, .bool true, .bool true, .int .u8 0, .bool true, .bool true, .bool true, .bool false, .int .u32 0, .bool true]
def rv62 : Value := .agg #[.int .i64 62, .string ⟨#[97, 109, 111, 97, 100, 100, 46, 119]⟩, .int .u32 47, .int .u32 2, .int .u32 0, .bool true, .bool true, .int .u8 0, .bool true, .bool true, .bool true, .bool false, .int .u32 0, .bool true]
def rv63 : Value := .agg #[.int .i64 63, .string ⟨#[97, 109, 111, 120, 111, 114, 46, 119]⟩, .int .u32 47, .int .u32 2, .int .u32 4, .bool true, .bool true, .int .u8 0, .bool true, .bool true, .bool true, .bool false, .int .u32 0, .bool true]
def rv64 : Value := .agg #[.int .i64 64, .string ⟨#[97, 109, 111, 97, 110, 100, 46, 119]⟩, .int .u32 47, .int .u32 2, .int .u32 12, .bool true, .bool true, .int .u8 0, .bool true, .bool true, .bool true, .bool false, .int .u32 0, .bool true]
def rv65 : Value := .agg #[.int .i64 65, .string ⟨#[97, 109, 111, 111, 114, 46, 119]⟩, .int .u32 47, .int .u32 2, .int .u32 8, .bool true, .bool true, .int .u8 0, .bool true, .bool true, .bool true, .bool false, .int .u32 0, .bool true]
def rv66 : Value := .agg #[.int .i64 66, .string ⟨#[97, 109, 111, 109, 105, 110, 46, 119]⟩, .int .u32 47, .int .u32 2, .int .u32 16, .bool true, .bool true, .int .u8 0, .bool true, .bool true, .bool true, .bool false, .int .u32 0, .bool true]
def rv67 : Value := .agg #[.int .i64 67, .string ⟨#[97, 109, 111, 109, 97, 120, 46, 119]⟩, .int .u32 47, .int .u32 2, .int .u32 20, .bool true, .bool true, .int .u8 0, .bool true, .bool true, .bool true, .bool false, .int .u32 0, .bool true]
def rv68 : Value := .agg #[.int .i64 68, .string ⟨#[97, 109, 111, 109, 105, 110, 117, 46, 119]⟩, .int .u32 47, .int .u32 2, .int .u32 24, .bool true, .bool true, .int .u8 0, .bool true, .bool true, .bool true, .bool false, .int .u32 0, .bool true]
def rv69 : Value := .agg #[.int .i64 69, .string ⟨#[97, 109, 111, 109, 97, 120, 117, 46, 119]⟩, .int .u32 47, .int .u32 2, .int .u32 28, .bool true, .bool true, .int .u8 0, .bool true, .bool true, .bool true, .bool false, .int .u32 0, .bool true]
def rowVals : List Value := [rv1, rv2, rv3, rv4, rv5, rv6, rv7, rv8, rv9, rv10, rv11, rv12, rv13, rv14, rv15, rv16, rv17, rv18, rv19, rv20, rv21, rv22, rv23, rv24, rv25, rv26, rv27, rv28, rv29, rv30, rv31, rv32, rv33, rv34, rv35, rv36, rv37, rv38, rv39, rv40, rv41, rv42, rv43, rv44, rv45, rv46, rv47, rv48, rv49, rv50, rv51, rv52, rv53, rv54, rv55, rv56, rv57, rv58, rv59, rv60, rv61, rv62, rv63, rv64, rv65, rv66, rv67, rv68, rv69]

theorem row_1 (w : World) : Calls Try.prog 48 #[.int .i64 1, .string ⟨#[108, 117, 105]⟩, .int .i64 55, .int .i64 (-1), .int .i64 (-1), .int .u8 85, .string ⟨#[100]⟩] w fun e w' => e = .returned rv1 ∧ Below w.heap.size w w' :=
  (row_ff 1 55 (-1) (-1) 85 _ _ (by decide) (by decide) (by decide) w).mono fun e w' ⟨h, hb⟩ => ⟨h.trans (by kernel_rfl), hb⟩

theorem row_2 (w : World) : Calls Try.prog 48 #[.int .i64 2, .string ⟨#[97, 117, 105, 112, 99]⟩, .int .i64 23, .int .i64 (-1), .int .i64 (-1), .int .u8 85, .string ⟨#[100]⟩] w fun e w' => e = .returned rv2 ∧ Below w.heap.size w w' :=
  (row_ff 2 23 (-1) (-1) 85 _ _ (by decide) (by decide) (by decide) w).mono fun e w' ⟨h, hb⟩ => ⟨h.trans (by kernel_rfl), hb⟩

theorem row_3 (w : World) : Calls Try.prog 48 #[.int .i64 3, .string ⟨#[106, 97, 108]⟩, .int .i64 111, .int .i64 (-1), .int .i64 (-1), .int .u8 74, .string ⟨#[100]⟩] w fun e w' => e = .returned rv3 ∧ Below w.heap.size w w' :=
  (row_ff 3 111 (-1) (-1) 74 _ _ (by decide) (by decide) (by decide) w).mono fun e w' ⟨h, hb⟩ => ⟨h.trans (by kernel_rfl), hb⟩

theorem row_4 (w : World) : Calls Try.prog 48 #[.int .i64 4, .string ⟨#[106, 97, 108, 114]⟩, .int .i64 103, .int .i64 (0), .int .i64 (-1), .int .u8 73, .string ⟨#[100, 97]⟩] w fun e w' => e = .returned rv4 ∧ Below w.heap.size w w' :=
  (row_tf 4 103 (0) (-1) 73 _ _ (by decide) (by decide) (by decide) w).mono fun e w' ⟨h, hb⟩ => ⟨h.trans (by kernel_rfl), hb⟩

theorem row_5 (w : World) : Calls Try.prog 48 #[.int .i64 5, .string ⟨#[98, 101, 113]⟩, .int .i64 99, .int .i64 (0), .int .i64 (-1), .int .u8 66, .string ⟨#[97, 98]⟩] w fun e w' => e = .returned rv5 ∧ Below w.heap.size w w' :=
  (row_tf 5 99 (0) (-1) 66 _ _ (by decide) (by decide) (by decide) w).mono fun e w' ⟨h, hb⟩ => ⟨h.trans (by kernel_rfl), hb⟩

theorem row_6 (w : World) : Calls Try.prog 48 #[.int .i64 6, .string ⟨#[98, 110, 101]⟩, .int .i64 99, .int .i64 (1), .int .i64 (-1), .int .u8 66, .string ⟨#[97, 98]⟩] w fun e w' => e = .returned rv6 ∧ Below w.heap.size w w' :=
  (row_tf 6 99 (1) (-1) 66 _ _ (by decide) (by decide) (by decide) w).mono fun e w' ⟨h, hb⟩ => ⟨h.trans (by kernel_rfl), hb⟩

theorem row_7 (w : World) : Calls Try.prog 48 #[.int .i64 7, .string ⟨#[98, 108, 116]⟩, .int .i64 99, .int .i64 (4), .int .i64 (-1), .int .u8 66, .string ⟨#[97, 98]⟩] w fun e w' => e = .returned rv7 ∧ Below w.heap.size w w' :=
  (row_tf 7 99 (4) (-1) 66 _ _ (by decide) (by decide) (by decide) w).mono fun e w' ⟨h, hb⟩ => ⟨h.trans (by kernel_rfl), hb⟩

theorem row_8 (w : World) : Calls Try.prog 48 #[.int .i64 8, .string ⟨#[98, 103, 101]⟩, .int .i64 99, .int .i64 (5), .int .i64 (-1), .int .u8 66, .string ⟨#[97, 98]⟩] w fun e w' => e = .returned rv8 ∧ Below w.heap.size w w' :=
  (row_tf 8 99 (5) (-1) 66 _ _ (by decide) (by decide) (by decide) w).mono fun e w' ⟨h, hb⟩ => ⟨h.trans (by kernel_rfl), hb⟩

theorem row_9 (w : World) : Calls Try.prog 48 #[.int .i64 9, .string ⟨#[98, 108, 116, 117]⟩, .int .i64 99, .int .i64 (6), .int .i64 (-1), .int .u8 66, .string ⟨#[97, 98]⟩] w fun e w' => e = .returned rv9 ∧ Below w.heap.size w w' :=
  (row_tf 9 99 (6) (-1) 66 _ _ (by decide) (by decide) (by decide) w).mono fun e w' ⟨h, hb⟩ => ⟨h.trans (by kernel_rfl), hb⟩

theorem row_10 (w : World) : Calls Try.prog 48 #[.int .i64 10, .string ⟨#[98, 103, 101, 117]⟩, .int .i64 99, .int .i64 (7), .int .i64 (-1), .int .u8 66, .string ⟨#[97, 98]⟩] w fun e w' => e = .returned rv10 ∧ Below w.heap.size w w' :=
  (row_tf 10 99 (7) (-1) 66 _ _ (by decide) (by decide) (by decide) w).mono fun e w' ⟨h, hb⟩ => ⟨h.trans (by kernel_rfl), hb⟩

theorem row_11 (w : World) : Calls Try.prog 48 #[.int .i64 11, .string ⟨#[108, 98]⟩, .int .i64 3, .int .i64 (0), .int .i64 (-1), .int .u8 73, .string ⟨#[100, 97]⟩] w fun e w' => e = .returned rv11 ∧ Below w.heap.size w w' :=
  (row_tf 11 3 (0) (-1) 73 _ _ (by decide) (by decide) (by decide) w).mono fun e w' ⟨h, hb⟩ => ⟨h.trans (by kernel_rfl), hb⟩

theorem row_12 (w : World) : Calls Try.prog 48 #[.int .i64 12, .string ⟨#[108, 104]⟩, .int .i64 3, .int .i64 (1), .int .i64 (-1), .int .u8 73, .string ⟨#[100, 97]⟩] w fun e w' => e = .returned rv12 ∧ Below w.heap.size w w' :=
  (row_tf 12 3 (1) (-1) 73 _ _ (by decide) (by decide) (by decide) w).mono fun e w' ⟨h, hb⟩ => ⟨h.trans (by kernel_rfl), hb⟩

theorem row_13 (w : World) : Calls Try.prog 48 #[.int .i64 13, .string ⟨#[108, 119]⟩, .int .i64 3, .int .i64 (2), .int .i64 (-1), .int .u8 73, .string ⟨#[100, 97]⟩] w fun e w' => e = .returned rv13 ∧ Below w.heap.size w w' :=
  (row_tf 13 3 (2) (-1) 73 _ _ (by decide) (by decide) (by decide) w).mono fun e w' ⟨h, hb⟩ => ⟨h.trans (by kernel_rfl), hb⟩

theorem row_14 (w : World) : Calls Try.prog 48 #[.int .i64 14, .string ⟨#[108, 98, 117]⟩, .int .i64 3, .int .i64 (4), .int .i64 (-1), .int .u8 73, .string ⟨#[100, 97]⟩] w fun e w' => e = .returned rv14 ∧ Below w.heap.size w w' :=
  (row_tf 14 3 (4) (-1) 73 _ _ (by decide) (by decide) (by decide) w).mono fun e w' ⟨h, hb⟩ => ⟨h.trans (by kernel_rfl), hb⟩

theorem row_15 (w : World) : Calls Try.prog 48 #[.int .i64 15, .string ⟨#[108, 104, 117]⟩, .int .i64 3, .int .i64 (5), .int .i64 (-1), .int .u8 73, .string ⟨#[100, 97]⟩] w fun e w' => e = .returned rv15 ∧ Below w.heap.size w w' :=
  (row_tf 15 3 (5) (-1) 73 _ _ (by decide) (by decide) (by decide) w).mono fun e w' ⟨h, hb⟩ => ⟨h.trans (by kernel_rfl), hb⟩

theorem row_16 (w : World) : Calls Try.prog 48 #[.int .i64 16, .string ⟨#[115, 98]⟩, .int .i64 35, .int .i64 (0), .int .i64 (-1), .int .u8 83, .string ⟨#[97, 98]⟩] w fun e w' => e = .returned rv16 ∧ Below w.heap.size w w' :=
  (row_tf 16 35 (0) (-1) 83 _ _ (by decide) (by decide) (by decide) w).mono fun e w' ⟨h, hb⟩ => ⟨h.trans (by kernel_rfl), hb⟩

theorem row_17 (w : World) : Calls Try.prog 48 #[.int .i64 17, .string ⟨#[115, 104]⟩, .int .i64 35, .int .i64 (1), .int .i64 (-1), .int .u8 83, .string ⟨#[97, 98]⟩] w fun e w' => e = .returned rv17 ∧ Below w.heap.size w w' :=
  (row_tf 17 35 (1) (-1) 83 _ _ (by decide) (by decide) (by decide) w).mono fun e w' ⟨h, hb⟩ => ⟨h.trans (by kernel_rfl), hb⟩

theorem row_18 (w : World) : Calls Try.prog 48 #[.int .i64 18, .string ⟨#[115, 119]⟩, .int .i64 35, .int .i64 (2), .int .i64 (-1), .int .u8 83, .string ⟨#[97, 98]⟩] w fun e w' => e = .returned rv18 ∧ Below w.heap.size w w' :=
  (row_tf 18 35 (2) (-1) 83 _ _ (by decide) (by decide) (by decide) w).mono fun e w' ⟨h, hb⟩ => ⟨h.trans (by kernel_rfl), hb⟩

theorem row_19 (w : World) : Calls Try.prog 48 #[.int .i64 19, .string ⟨#[97, 100, 100, 105]⟩, .int .i64 19, .int .i64 (0), .int .i64 (-1), .int .u8 73, .string ⟨#[100, 97]⟩] w fun e w' => e = .returned rv19 ∧ Below w.heap.size w w' :=
  (row_tf 19 19 (0) (-1) 73 _ _ (by decide) (by decide) (by decide) w).mono fun e w' ⟨h, hb⟩ => ⟨h.trans (by kernel_rfl), hb⟩

theorem row_20 (w : World) : Calls Try.prog 48 #[.int .i64 20, .string ⟨#[115, 108, 116, 105]⟩, .int .i64 19, .int .i64 (2), .int .i64 (-1), .int .u8 73, .string ⟨#[100, 97]⟩] w fun e w' => e = .returned rv20 ∧ Below w.heap.size w w' :=
  (row_tf 20 19 (2) (-1) 73 _ _ (by decide) (by decide) (by decide) w).mono fun e w' ⟨h, hb⟩ => ⟨h.trans (by kernel_rfl), hb⟩

theorem row_21 (w : World) : Calls Try.prog 48 #[.int .i64 21, .string ⟨#[115, 108, 116, 105, 117]⟩, .int .i64 19, .int .i64 (3), .int .i64 (-1), .int .u8 73, .string ⟨#[100, 97]⟩] w fun e w' => e = .returned rv21 ∧ Below w.heap.size w w' :=
  (row_tf 21 19 (3) (-1) 73 _ _ (by decide) (by decide) (by decide) w).mono fun e w' ⟨h, hb⟩ => ⟨h.trans (by kernel_rfl), hb⟩

theorem row_22 (w : World) : Calls Try.prog 48 #[.int .i64 22, .string ⟨#[120, 111, 114, 105]⟩, .int .i64 19, .int .i64 (4), .int .i64 (-1), .int .u8 73, .string ⟨#[100, 97]⟩] w fun e w' => e = .returned rv22 ∧ Below w.heap.size w w' :=
  (row_tf 22 19 (4) (-1) 73 _ _ (by decide) (by decide) (by decide) w).mono fun e w' ⟨h, hb⟩ => ⟨h.trans (by kernel_rfl), hb⟩

theorem row_23 (w : World) : Calls Try.prog 48 #[.int .i64 23, .string ⟨#[111, 114, 105]⟩, .int .i64 19, .int .i64 (6), .int .i64 (-1), .int .u8 73, .string ⟨#[100, 97]⟩] w fun e w' => e = .returned rv23 ∧ Below w.heap.size w w' :=
  (row_tf 23 19 (6) (-1) 73 _ _ (by decide) (by decide) (by decide) w).mono fun e w' ⟨h, hb⟩ => ⟨h.trans (by kernel_rfl), hb⟩

theorem row_24 (w : World) : Calls Try.prog 48 #[.int .i64 24, .string ⟨#[97, 110, 100, 105]⟩, .int .i64 19, .int .i64 (7), .int .i64 (-1), .int .u8 73, .string ⟨#[100, 97]⟩] w fun e w' => e = .returned rv24 ∧ Below w.heap.size w w' :=
  (row_tf 24 19 (7) (-1) 73 _ _ (by decide) (by decide) (by decide) w).mono fun e w' ⟨h, hb⟩ => ⟨h.trans (by kernel_rfl), hb⟩

theorem row_25 (w : World) : Calls Try.prog 48 #[.int .i64 25, .string ⟨#[115, 108, 108, 105]⟩, .int .i64 19, .int .i64 (1), .int .i64 (0), .int .u8 90, .string ⟨#[100, 97]⟩] w fun e w' => e = .returned rv25 ∧ Below w.heap.size w w' :=
  (row_tt 25 19 (1) (0) 90 _ _ (by decide) (by decide) (by decide) w).mono fun e w' ⟨h, hb⟩ => ⟨h.trans (by kernel_rfl), hb⟩

theorem row_26 (w : World) : Calls Try.prog 48 #[.int .i64 26, .string ⟨#[115, 114, 108, 105]⟩, .int .i64 19, .int .i64 (5), .int .i64 (0), .int .u8 90, .string ⟨#[100, 97]⟩] w fun e w' => e = .returned rv26 ∧ Below w.heap.size w w' :=
  (row_tt 26 19 (5) (0) 90 _ _ (by decide) (by decide) (by decide) w).mono fun e w' ⟨h, hb⟩ => ⟨h.trans (by kernel_rfl), hb⟩

theorem row_27 (w : World) : Calls Try.prog 48 #[.int .i64 27, .string ⟨#[115, 114, 97, 105]⟩, .int .i64 19, .int .i64 (5), .int .i64 (32), .int .u8 90, .string ⟨#[100, 97]⟩] w fun e w' => e = .returned rv27 ∧ Below w.heap.size w w' :=
  (row_tt 27 19 (5) (32) 90 _ _ (by decide) (by decide) (by decide) w).mono fun e w' ⟨h, hb⟩ => ⟨h.trans (by kernel_rfl), hb⟩

theorem row_28 (w : World) : Calls Try.prog 48 #[.int .i64 28, .string ⟨#[97, 100, 100]⟩, .int .i64 51, .int .i64 (0), .int .i64 (0), .int .u8 0, .string ⟨#[100, 97, 98]⟩] w fun e w' => e = .returned rv28 ∧ Below w.heap.size w w' :=
  (row_tt 28 51 (0) (0) 0 _ _ (by decide) (by decide) (by decide) w).mono fun e w' ⟨h, hb⟩ => ⟨h.trans (by kernel_rfl), hb⟩

theorem row_29 (w : World) : Calls Try.prog 48 #[.int .i64 29, .string ⟨#[115, 117, 98]⟩, .int .i64 51, .int .i64 (0), .int .i64 (32), .int .u8 0, .string ⟨#[100, 97, 98]⟩] w fun e w' => e = .returned rv29 ∧ Below w.heap.size w w' :=
  (row_tt 29 51 (0) (32) 0 _ _ (by decide) (by decide) (by decide) w).mono fun e w' ⟨h, hb⟩ => ⟨h.trans (by kernel_rfl), hb⟩

theorem row_30 (w : World) : Calls Try.prog 48 #[.int .i64 30, .string ⟨#[115, 108, 108]⟩, .int .i64 51, .int .i64 (1), .int .i64 (0), .int .u8 0, .string ⟨#[100, 97, 98]⟩] w fun e w' => e = .returned rv30 ∧ Below w.heap.size w w' :=
  (row_tt 30 51 (1) (0) 0 _ _ (by decide) (by decide) (by decide) w).mono fun e w' ⟨h, hb⟩ => ⟨h.trans (by kernel_rfl), hb⟩

theorem row_31 (w : World) : Calls Try.prog 48 #[.int .i64 31, .string ⟨#[115, 108, 116]⟩, .int .i64 51, .int .i64 (2), .int .i64 (0), .int .u8 0, .string ⟨#[100, 97, 98]⟩] w fun e w' => e = .returned rv31 ∧ Below w.heap.size w w' :=
  (row_tt 31 51 (2) (0) 0 _ _ (by decide) (by decide) (by decide) w).mono fun e w' ⟨h, hb⟩ => ⟨h.trans (by kernel_rfl), hb⟩

theorem row_32 (w : World) : Calls Try.prog 48 #[.int .i64 32, .string ⟨#[115, 108, 116, 117]⟩, .int .i64 51, .int .i64 (3), .int .i64 (0), .int .u8 0, .string ⟨#[100, 97, 98]⟩] w fun e w' => e = .returned rv32 ∧ Below w.heap.size w w' :=
  (row_tt 32 51 (3) (0) 0 _ _ (by decide) (by decide) (by decide) w).mono fun e w' ⟨h, hb⟩ => ⟨h.trans (by kernel_rfl), hb⟩

theorem row_33 (w : World) : Calls Try.prog 48 #[.int .i64 33, .string ⟨#[120, 111, 114]⟩, .int .i64 51, .int .i64 (4), .int .i64 (0), .int .u8 0, .string ⟨#[100, 97, 98]⟩] w fun e w' => e = .returned rv33 ∧ Below w.heap.size w w' :=
  (row_tt 33 51 (4) (0) 0 _ _ (by decide) (by decide) (by decide) w).mono fun e w' ⟨h, hb⟩ => ⟨h.trans (by kernel_rfl), hb⟩

theorem row_34 (w : World) : Calls Try.prog 48 #[.int .i64 34, .string ⟨#[115, 114, 108]⟩, .int .i64 51, .int .i64 (5), .int .i64 (0), .int .u8 0, .string ⟨#[100, 97, 98]⟩] w fun e w' => e = .returned rv34 ∧ Below w.heap.size w w' :=
  (row_tt 34 51 (5) (0) 0 _ _ (by decide) (by decide) (by decide) w).mono fun e w' ⟨h, hb⟩ => ⟨h.trans (by kernel_rfl), hb⟩

theorem row_35 (w : World) : Calls Try.prog 48 #[.int .i64 35, .string ⟨#[115, 114, 97]⟩, .int .i64 51, .int .i64 (5), .int .i64 (32), .int .u8 0, .string ⟨#[100, 97, 98]⟩] w fun e w' => e = .returned rv35 ∧ Below w.heap.size w w' :=
  (row_tt 35 51 (5) (32) 0 _ _ (by decide) (by decide) (by decide) w).mono fun e w' ⟨h, hb⟩ => ⟨h.trans (by kernel_rfl), hb⟩

theorem row_36 (w : World) : Calls Try.prog 48 #[.int .i64 36, .string ⟨#[111, 114]⟩, .int .i64 51, .int .i64 (6), .int .i64 (0), .int .u8 0, .string ⟨#[100, 97, 98]⟩] w fun e w' => e = .returned rv36 ∧ Below w.heap.size w w' :=
  (row_tt 36 51 (6) (0) 0 _ _ (by decide) (by decide) (by decide) w).mono fun e w' ⟨h, hb⟩ => ⟨h.trans (by kernel_rfl), hb⟩

theorem row_37 (w : World) : Calls Try.prog 48 #[.int .i64 37, .string ⟨#[97, 110, 100]⟩, .int .i64 51, .int .i64 (7), .int .i64 (0), .int .u8 0, .string ⟨#[100, 97, 98]⟩] w fun e w' => e = .returned rv37 ∧ Below w.heap.size w w' :=
  (row_tt 37 51 (7) (0) 0 _ _ (by decide) (by decide) (by decide) w).mono fun e w' ⟨h, hb⟩ => ⟨h.trans (by kernel_rfl), hb⟩

theorem row_38 (w : World) : Calls Try.prog 48 #[.int .i64 38, .string ⟨#[102, 101, 110, 99, 101]⟩, .int .i64 15, .int .i64 (0), .int .i64 (-1), .int .u8 70, .string ⟨#[]⟩] w fun e w' => e = .returned rv38 ∧ Below w.heap.size w w' :=
  (row_tf 38 15 (0) (-1) 70 _ _ (by decide) (by decide) (by decide) w).mono fun e w' ⟨h, hb⟩ => ⟨h.trans (by kernel_rfl), hb⟩

theorem row_39 (w : World) : Calls Try.prog 49 #[.int .i64 39, .string ⟨#[102, 101, 110, 99, 101, 46, 105]⟩, .int .u32 4111] w fun e w' => e = .returned rv39 ∧ Below w.heap.size w w' := whole_any _ _ _ w

theorem row_40 (w : World) : Calls Try.prog 49 #[.int .i64 40, .string ⟨#[101, 99, 97, 108, 108]⟩, .int .u32 115] w fun e w' => e = .returned rv40 ∧ Below w.heap.size w w' := whole_any _ _ _ w

theorem row_41 (w : World) : Calls Try.prog 49 #[.int .i64 41, .string ⟨#[101, 98, 114, 101, 97, 107]⟩, .int .u32 1048691] w fun e w' => e = .returned rv41 ∧ Below w.heap.size w w' := whole_any _ _ _ w

theorem row_42 (w : World) : Calls Try.prog 49 #[.int .i64 42, .string ⟨#[109, 114, 101, 116]⟩, .int .u32 807403635] w fun e w' => e = .returned rv42 ∧ Below w.heap.size w w' := whole_any _ _ _ w

theorem row_43 (w : World) : Calls Try.prog 49 #[.int .i64 43, .string ⟨#[119, 102, 105]⟩, .int .u32 273678451] w fun e w' => e = .returned rv43 ∧ Below w.heap.size w w' := whole_any _ _ _ w

theorem row_44 (w : World) : Calls Try.prog 48 #[.int .i64 44, .string ⟨#[115, 102, 101, 110, 99, 101, 46, 118, 109, 97]⟩, .int .i64 115, .int .i64 (0), .int .i64 (9), .int .u8 0, .string ⟨#[97, 98]⟩] w fun e w' => e = .returned rv44 ∧ Below w.heap.size w w' :=
  (row_tt 44 115 (0) (9) 0 _ _ (by decide) (by decide) (by decide) w).mono fun e w' ⟨h, hb⟩ => ⟨h.trans (by kernel_rfl), hb⟩

theorem row_45 (w : World) : Calls Try.prog 48 #[.int .i64 45, .string ⟨#[99, 115, 114, 114, 119]⟩, .int .i64 115, .int .i64 (1), .int .i64 (-1), .int .u8 0, .string ⟨#[100, 97, 99]⟩] w fun e w' => e = .returned rv45 ∧ Below w.heap.size w w' :=
  (row_tf 45 115 (1) (-1) 0 _ _ (by decide) (by decide) (by decide) w).mono fun e w' ⟨h, hb⟩ => ⟨h.trans (by kernel_rfl), hb⟩

theorem row_46 (w : World) : Calls Try.prog 48 #[.int .i64 46, .string ⟨#[99, 115, 114, 114, 115]⟩, .int .i64 115, .int .i64 (2), .int .i64 (-1), .int .u8 0, .string ⟨#[100, 97, 99]⟩] w fun e w' => e = .returned rv46 ∧ Below w.heap.size w w' :=
  (row_tf 46 115 (2) (-1) 0 _ _ (by decide) (by decide) (by decide) w).mono fun e w' ⟨h, hb⟩ => ⟨h.trans (by kernel_rfl), hb⟩

theorem row_47 (w : World) : Calls Try.prog 48 #[.int .i64 47, .string ⟨#[99, 115, 114, 114, 99]⟩, .int .i64 115, .int .i64 (3), .int .i64 (-1), .int .u8 0, .string ⟨#[100, 97, 99]⟩] w fun e w' => e = .returned rv47 ∧ Below w.heap.size w w' :=
  (row_tf 47 115 (3) (-1) 0 _ _ (by decide) (by decide) (by decide) w).mono fun e w' ⟨h, hb⟩ => ⟨h.trans (by kernel_rfl), hb⟩

theorem row_48 (w : World) : Calls Try.prog 48 #[.int .i64 48, .string ⟨#[99, 115, 114, 114, 119, 105]⟩, .int .i64 115, .int .i64 (5), .int .i64 (-1), .int .u8 67, .string ⟨#[100, 99]⟩] w fun e w' => e = .returned rv48 ∧ Below w.heap.size w w' :=
  (row_tf 48 115 (5) (-1) 67 _ _ (by decide) (by decide) (by decide) w).mono fun e w' ⟨h, hb⟩ => ⟨h.trans (by kernel_rfl), hb⟩

theorem row_49 (w : World) : Calls Try.prog 48 #[.int .i64 49, .string ⟨#[99, 115, 114, 114, 115, 105]⟩, .int .i64 115, .int .i64 (6), .int .i64 (-1), .int .u8 67, .string ⟨#[100, 99]⟩] w fun e w' => e = .returned rv49 ∧ Below w.heap.size w w' :=
  (row_tf 49 115 (6) (-1) 67 _ _ (by decide) (by decide) (by decide) w).mono fun e w' ⟨h, hb⟩ => ⟨h.trans (by kernel_rfl), hb⟩

theorem row_50 (w : World) : Calls Try.prog 48 #[.int .i64 50, .string ⟨#[99, 115, 114, 114, 99, 105]⟩, .int .i64 115, .int .i64 (7), .int .i64 (-1), .int .u8 67, .string ⟨#[100, 99]⟩] w fun e w' => e = .returned rv50 ∧ Below w.heap.size w w' :=
  (row_tf 50 115 (7) (-1) 67 _ _ (by decide) (by decide) (by decide) w).mono fun e w' ⟨h, hb⟩ => ⟨h.trans (by kernel_rfl), hb⟩

theorem row_51 (w : World) : Calls Try.prog 48 #[.int .i64 51, .string ⟨#[109, 117, 108]⟩, .int .i64 51, .int .i64 (0), .int .i64 (1), .int .u8 0, .string ⟨#[100, 97, 98]⟩] w fun e w' => e = .returned rv51 ∧ Below w.heap.size w w' :=
  (row_tt 51 51 (0) (1) 0 _ _ (by decide) (by decide) (by decide) w).mono fun e w' ⟨h, hb⟩ => ⟨h.trans (by kernel_rfl), hb⟩

theorem row_52 (w : World) : Calls Try.prog 48 #[.int .i64 52, .string ⟨#[109, 117, 108, 104]⟩, .int .i64 51, .int .i64 (1), .int .i64 (1), .int .u8 0, .string ⟨#[100, 97, 98]⟩] w fun e w' => e = .returned rv52 ∧ Below w.heap.size w w' :=
  (row_tt 52 51 (1) (1) 0 _ _ (by decide) (by decide) (by decide) w).mono fun e w' ⟨h, hb⟩ => ⟨h.trans (by kernel_rfl), hb⟩

theorem row_53 (w : World) : Calls Try.prog 48 #[.int .i64 53, .string ⟨#[109, 117, 108, 104, 115, 117]⟩, .int .i64 51, .int .i64 (2), .int .i64 (1), .int .u8 0, .string ⟨#[100, 97, 98]⟩] w fun e w' => e = .returned rv53 ∧ Below w.heap.size w w' :=
  (row_tt 53 51 (2) (1) 0 _ _ (by decide) (by decide) (by decide) w).mono fun e w' ⟨h, hb⟩ => ⟨h.trans (by kernel_rfl), hb⟩

theorem row_54 (w : World) : Calls Try.prog 48 #[.int .i64 54, .string ⟨#[109, 117, 108, 104, 117]⟩, .int .i64 51, .int .i64 (3), .int .i64 (1), .int .u8 0, .string ⟨#[100, 97, 98]⟩] w fun e w' => e = .returned rv54 ∧ Below w.heap.size w w' :=
  (row_tt 54 51 (3) (1) 0 _ _ (by decide) (by decide) (by decide) w).mono fun e w' ⟨h, hb⟩ => ⟨h.trans (by kernel_rfl), hb⟩

theorem row_55 (w : World) : Calls Try.prog 48 #[.int .i64 55, .string ⟨#[100, 105, 118]⟩, .int .i64 51, .int .i64 (4), .int .i64 (1), .int .u8 0, .string ⟨#[100, 97, 98]⟩] w fun e w' => e = .returned rv55 ∧ Below w.heap.size w w' :=
  (row_tt 55 51 (4) (1) 0 _ _ (by decide) (by decide) (by decide) w).mono fun e w' ⟨h, hb⟩ => ⟨h.trans (by kernel_rfl), hb⟩

theorem row_56 (w : World) : Calls Try.prog 48 #[.int .i64 56, .string ⟨#[100, 105, 118, 117]⟩, .int .i64 51, .int .i64 (5), .int .i64 (1), .int .u8 0, .string ⟨#[100, 97, 98]⟩] w fun e w' => e = .returned rv56 ∧ Below w.heap.size w w' :=
  (row_tt 56 51 (5) (1) 0 _ _ (by decide) (by decide) (by decide) w).mono fun e w' ⟨h, hb⟩ => ⟨h.trans (by kernel_rfl), hb⟩

theorem row_57 (w : World) : Calls Try.prog 48 #[.int .i64 57, .string ⟨#[114, 101, 109]⟩, .int .i64 51, .int .i64 (6), .int .i64 (1), .int .u8 0, .string ⟨#[100, 97, 98]⟩] w fun e w' => e = .returned rv57 ∧ Below w.heap.size w w' :=
  (row_tt 57 51 (6) (1) 0 _ _ (by decide) (by decide) (by decide) w).mono fun e w' ⟨h, hb⟩ => ⟨h.trans (by kernel_rfl), hb⟩

theorem row_58 (w : World) : Calls Try.prog 48 #[.int .i64 58, .string ⟨#[114, 101, 109, 117]⟩, .int .i64 51, .int .i64 (7), .int .i64 (1), .int .u8 0, .string ⟨#[100, 97, 98]⟩] w fun e w' => e = .returned rv58 ∧ Below w.heap.size w w' :=
  (row_tt 58 51 (7) (1) 0 _ _ (by decide) (by decide) (by decide) w).mono fun e w' ⟨h, hb⟩ => ⟨h.trans (by kernel_rfl), hb⟩

theorem row_59 (w : World) : Calls Try.prog 48 #[.int .i64 59, .string ⟨#[108, 114, 46, 119]⟩, .int .i64 47, .int .i64 (2), .int .i64 (2), .int .u8 0, .string ⟨#[100, 97, 112]⟩] w fun e w' => e = .returned rv59 ∧ Below w.heap.size w w' :=
  (row_tt 59 47 (2) (2) 0 _ _ (by decide) (by decide) (by decide) w).mono fun e w' ⟨h, hb⟩ => ⟨h.trans (by kernel_rfl), hb⟩

theorem row_60 (w : World) : Calls Try.prog 48 #[.int .i64 60, .string ⟨#[115, 99, 46, 119]⟩, .int .i64 47, .int .i64 (2), .int .i64 (3), .int .u8 0, .string ⟨#[100, 97, 98, 112]⟩] w fun e w' => e = .returned rv60 ∧ Below w.heap.size w w' :=
  (row_tt 60 47 (2) (3) 0 _ _ (by decide) (by decide) (by decide) w).mono fun e w' ⟨h, hb⟩ => ⟨h.trans (by kernel_rfl), hb⟩

theorem row_61 (w : World) : Calls Try.prog 48 #[.int .i64 61, .string ⟨#[97, 109, 111, 115, 119, 97, 112, 46, 119]⟩, .int .i64 47, .int .i64 (2), .int .i64 (1), .int .u8 0, .string ⟨#[100, 97, 98, 112]⟩] w fun e w' => e = .returned rv61 ∧ Below w.heap.size w w' :=
  (row_tt 61 47 (2) (1) 0 _ _ (by decide) (by decide) (by decide) w).mono fun e w' ⟨h, hb⟩ => ⟨h.trans (by kernel_rfl), hb⟩

theorem row_62 (w : World) : Calls Try.prog 48 #[.int .i64 62, .string ⟨#[97, 109, 111, 97, 100, 100, 46, 119]⟩, .int .i64 47, .int .i64 (2), .int .i64 (0), .int .u8 0, .string ⟨#[100, 97, 98, 112]⟩] w fun e w' => e = .returned rv62 ∧ Below w.heap.size w w' :=
  (row_tt 62 47 (2) (0) 0 _ _ (by decide) (by decide) (by decide) w).mono fun e w' ⟨h, hb⟩ => ⟨h.trans (by kernel_rfl), hb⟩

theorem row_63 (w : World) : Calls Try.prog 48 #[.int .i64 63, .string ⟨#[97, 109, 111, 120, 111, 114, 46, 119]⟩, .int .i64 47, .int .i64 (2), .int .i64 (4), .int .u8 0, .string ⟨#[100, 97, 98, 112]⟩] w fun e w' => e = .returned rv63 ∧ Below w.heap.size w w' :=
  (row_tt 63 47 (2) (4) 0 _ _ (by decide) (by decide) (by decide) w).mono fun e w' ⟨h, hb⟩ => ⟨h.trans (by kernel_rfl), hb⟩

theorem row_64 (w : World) : Calls Try.prog 48 #[.int .i64 64, .string ⟨#[97, 109, 111, 97, 110, 100, 46, 119]⟩, .int .i64 47, .int .i64 (2), .int .i64 (12), .int .u8 0, .string ⟨#[100, 97, 98, 112]⟩] w fun e w' => e = .returned rv64 ∧ Below w.heap.size w w' :=
  (row_tt 64 47 (2) (12) 0 _ _ (by decide) (by decide) (by decide) w).mono fun e w' ⟨h, hb⟩ => ⟨h.trans (by kernel_rfl), hb⟩

theorem row_65 (w : World) : Calls Try.prog 48 #[.int .i64 65, .string ⟨#[97, 109, 111, 111, 114, 46, 119]⟩, .int .i64 47, .int .i64 (2), .int .i64 (8), .int .u8 0, .string ⟨#[100, 97, 98, 112]⟩] w fun e w' => e = .returned rv65 ∧ Below w.heap.size w w' :=
  (row_tt 65 47 (2) (8) 0 _ _ (by decide) (by decide) (by decide) w).mono fun e w' ⟨h, hb⟩ => ⟨h.trans (by kernel_rfl), hb⟩

theorem row_66 (w : World) : Calls Try.prog 48 #[.int .i64 66, .string ⟨#[97, 109, 111, 109, 105, 110, 46, 119]⟩, .int .i64 47, .int .i64 (2), .int .i64 (16), .int .u8 0, .string ⟨#[100, 97, 98, 112]⟩] w fun e w' => e = .returned rv66 ∧ Below w.heap.size w w' :=
  (row_tt 66 47 (2) (16) 0 _ _ (by decide) (by decide) (by decide) w).mono fun e w' ⟨h, hb⟩ => ⟨h.trans (by kernel_rfl), hb⟩

theorem row_67 (w : World) : Calls Try.prog 48 #[.int .i64 67, .string ⟨#[97, 109, 111, 109, 97, 120, 46, 119]⟩, .int .i64 47, .int .i64 (2), .int .i64 (20), .int .u8 0, .string ⟨#[100, 97, 98, 112]⟩] w fun e w' => e = .returned rv67 ∧ Below w.heap.size w w' :=
  (row_tt 67 47 (2) (20) 0 _ _ (by decide) (by decide) (by decide) w).mono fun e w' ⟨h, hb⟩ => ⟨h.trans (by kernel_rfl), hb⟩

theorem row_68 (w : World) : Calls Try.prog 48 #[.int .i64 68, .string ⟨#[97, 109, 111, 109, 105, 110, 117, 46, 119]⟩, .int .i64 47, .int .i64 (2), .int .i64 (24), .int .u8 0, .string ⟨#[100, 97, 98, 112]⟩] w fun e w' => e = .returned rv68 ∧ Below w.heap.size w w' :=
  (row_tt 68 47 (2) (24) 0 _ _ (by decide) (by decide) (by decide) w).mono fun e w' ⟨h, hb⟩ => ⟨h.trans (by kernel_rfl), hb⟩

theorem row_69 (w : World) : Calls Try.prog 48 #[.int .i64 69, .string ⟨#[97, 109, 111, 109, 97, 120, 117, 46, 119]⟩, .int .i64 47, .int .i64 (2), .int .i64 (28), .int .u8 0, .string ⟨#[100, 97, 98, 112]⟩] w fun e w' => e = .returned rv69 ∧ Below w.heap.size w w' :=
  (row_tt 69 47 (2) (28) 0 _ _ (by decide) (by decide) (by decide) w).mono fun e w' ⟨h, hb⟩ => ⟨h.trans (by kernel_rfl), hb⟩

end Go.Proofs.Ytopehmpjfndgjaa

/- What the document's Rows returns. -/
namespace Go.Proofs.Ytopehmpjfndgjaa
open Go.ChangeShapes Go.WideShapes Go.ChangeAt Go.RowKit
set_option linter.unusedVariables false
set_option linter.unusedSimpArgs false

theorem Good.cons {P : Program} {n : Nat} {o : Oper} {l : List Oper} {v : Value} {vs : List Value} (hg : o.guard = none) (hd : o.dst = some n) (f : FuncId) (args : Array Value) (hrun : ∀ a : Act, ∀ w, (execOp a.eval o).run P w = .ok (.enter f args) w)
    (hc : ∀ w, Calls P f args w fun e w' => e = .returned v ∧ Below w.heap.size w w') (hr : Good P (n + 1) l vs) : Good P n (o :: l) (v :: vs) := ⟨⟨hg, hd, f, args, hrun, hc⟩, hr⟩
theorem puts_low : ∀ (vs : List Value) (n : Nat) (a : Act) (k : Nat), k < n → (puts a n vs).eval (.tmp k) = a.eval (.tmp k)
  | [], _, _, _, _ => rfl
  | v :: vs, n, a, k, h => by
    rw [puts, puts_low vs (n + 1) _ k (by omega)]
    simp only [Act.eval, Act.put]
    rw [Array.getD_eq_getD_getElem?, Array.getD_eq_getD_getElem?, Array.getElem?_setIfInBounds_ne (by omega)]
theorem puts_at : ∀ (vs : List Value) (n : Nat) (a : Act) (i : Nat) (h : i < vs.length), n + vs.length ≤ a.tmps.size → (puts a n vs).eval (.tmp (n + i)) = vs[i]
  | v :: vs, n, a, 0, _, hs => by
    show (puts (a.put (some n) v) (n + 1) vs).eval (.tmp n) = v
    rw [puts_low vs (n + 1) _ n (by omega)]
    simp only [Act.eval, Act.put]
    rw [Array.getD_eq_getD_getElem?, Array.getElem?_setIfInBounds_self_of_lt (by simp at hs; omega)]
    rfl
  | v :: vs, n, a, i + 1, h, hs => by
    rw [puts, show n + (i + 1) = (n + 1) + i by omega, puts_at vs (n + 1) _ i (by simpa using h) (by simp [Act.put] at hs ⊢; omega)]
    rfl

set_option maxRecDepth 100000 in
set_option maxHeartbeats 6400000 in
theorem rows_any (w : World) : Calls Try.prog 42 #[] w fun e w' => ∃ w1, Below w.heap.size w w1 ∧ e = .returned (.slice (some ⟨w1.heap.size, 0, none⟩) 69 69) ∧ w' = w1.alloc (.cells (rowVals.flatMap fun v => v.cells.toList).toArray 65) := by
  go_enter Try.func42, Try.ntmps42
  generalize hops : (List.toArray (List.append ({ dst := some 1, op := _, type := _, pos := _, after := _, guard := _ } :: _) _) : Array Oper) = ops
  go_wp2
  generalize ops.toList.toArray = OA
  subst hops
  rw [← List.take_append_drop 69 (List.toArray _).toList]
  refine wpList_calls _ rowVals 1 _ w ?good ?rest
  case good =>
    refine Good.cons rfl rfl 48 _ (fun _ _ => by kernel_rfl) row_1 ?_
    refine Good.cons rfl rfl 48 _ (fun _ _ => by kernel_rfl) row_2 ?_
    refine Good.cons rfl rfl 48 _ (fun _ _ => by kernel_rfl) row_3 ?_
    refine Good.cons rfl rfl 48 _ (fun _ _ => by kernel_rfl) row_4 ?_
    refine Good.cons rfl rfl 48 _ (fun _ _ => by kernel_rfl) row_5 ?_
    refine Good.cons rfl rfl 48 _ (fun _ _ => by kernel_rfl) row_6 ?_
    refine Good.cons rfl rfl 48 _ (fun _ _ => by kernel_rfl) row_7 ?_
    refine Good.cons rfl rfl 48 _ (fun _ _ => by kernel_rfl) row_8 ?_
    refine Good.cons rfl rfl 48 _ (fun _ _ => by kernel_rfl) row_9 ?_
    refine Good.cons rfl rfl 48 _ (fun _ _ => by kernel_rfl) row_10 ?_
    refine Good.cons rfl rfl 48 _ (fun _ _ => by kernel_rfl) row_11 ?_
    refine Good.cons rfl rfl 48 _ (fun _ _ => by kernel_rfl) row_12 ?_
    refine Good.cons rfl rfl 48 _ (fun _ _ => by kernel_rfl) row_13 ?_
    refine Good.cons rfl rfl 48 _ (fun _ _ => by kernel_rfl) row_14 ?_
    refine Good.cons rfl rfl 48 _ (fun _ _ => by kernel_rfl) row_15 ?_
    refine Good.cons rfl rfl 48 _ (fun _ _ => by kernel_rfl) row_16 ?_
    refine Good.cons rfl rfl 48 _ (fun _ _ => by kernel_rfl) row_17 ?_
    refine Good.cons rfl rfl 48 _ (fun _ _ => by kernel_rfl) row_18 ?_
    refine Good.cons rfl rfl 48 _ (fun _ _ => by kernel_rfl) row_19 ?_
    refine Good.cons rfl rfl 48 _ (fun _ _ => by kernel_rfl) row_20 ?_
    refine Good.cons rfl rfl 48 _ (fun _ _ => by kernel_rfl) row_21 ?_
    refine Good.cons rfl rfl 48 _ (fun _ _ => by kernel_rfl) row_22 ?_
    refine Good.cons rfl rfl 48 _ (fun _ _ => by kernel_rfl) row_23 ?_
    refine Good.cons rfl rfl 48 _ (fun _ _ => by kernel_rfl) row_24 ?_
    refine Good.cons rfl rfl 48 _ (fun _ _ => by kernel_rfl) row_25 ?_
    refine Good.cons rfl rfl 48 _ (fun _ _ => by kernel_rfl) row_26 ?_
    refine Good.cons rfl rfl 48 _ (fun _ _ => by kernel_rfl) row_27 ?_
    refine Good.cons rfl rfl 48 _ (fun _ _ => by kernel_rfl) row_28 ?_
    refine Good.cons rfl rfl 48 _ (fun _ _ => by kernel_rfl) row_29 ?_
    refine Good.cons rfl rfl 48 _ (fun _ _ => by kernel_rfl) row_30 ?_
    refine Good.cons rfl rfl 48 _ (fun _ _ => by kernel_rfl) row_31 ?_
    refine Good.cons rfl rfl 48 _ (fun _ _ => by kernel_rfl) row_32 ?_
    refine Good.cons rfl rfl 48 _ (fun _ _ => by kernel_rfl) row_33 ?_
    refine Good.cons rfl rfl 48 _ (fun _ _ => by kernel_rfl) row_34 ?_
    refine Good.cons rfl rfl 48 _ (fun _ _ => by kernel_rfl) row_35 ?_
    refine Good.cons rfl rfl 48 _ (fun _ _ => by kernel_rfl) row_36 ?_
    refine Good.cons rfl rfl 48 _ (fun _ _ => by kernel_rfl) row_37 ?_
    refine Good.cons rfl rfl 48 _ (fun _ _ => by kernel_rfl) row_38 ?_
    refine Good.cons rfl rfl 49 _ (fun _ _ => by kernel_rfl) row_39 ?_
    refine Good.cons rfl rfl 49 _ (fun _ _ => by kernel_rfl) row_40 ?_
    refine Good.cons rfl rfl 49 _ (fun _ _ => by kernel_rfl) row_41 ?_
    refine Good.cons rfl rfl 49 _ (fun _ _ => by kernel_rfl) row_42 ?_
    refine Good.cons rfl rfl 49 _ (fun _ _ => by kernel_rfl) row_43 ?_
    refine Good.cons rfl rfl 48 _ (fun _ _ => by kernel_rfl) row_44 ?_
    refine Good.cons rfl rfl 48 _ (fun _ _ => by kernel_rfl) row_45 ?_
    refine Good.cons rfl rfl 48 _ (fun _ _ => by kernel_rfl) row_46 ?_
    refine Good.cons rfl rfl 48 _ (fun _ _ => by kernel_rfl) row_47 ?_
    refine Good.cons rfl rfl 48 _ (fun _ _ => by kernel_rfl) row_48 ?_
    refine Good.cons rfl rfl 48 _ (fun _ _ => by kernel_rfl) row_49 ?_
    refine Good.cons rfl rfl 48 _ (fun _ _ => by kernel_rfl) row_50 ?_
    refine Good.cons rfl rfl 48 _ (fun _ _ => by kernel_rfl) row_51 ?_
    refine Good.cons rfl rfl 48 _ (fun _ _ => by kernel_rfl) row_52 ?_
    refine Good.cons rfl rfl 48 _ (fun _ _ => by kernel_rfl) row_53 ?_
    refine Good.cons rfl rfl 48 _ (fun _ _ => by kernel_rfl) row_54 ?_
    refine Good.cons rfl rfl 48 _ (fun _ _ => by kernel_rfl) row_55 ?_
    refine Good.cons rfl rfl 48 _ (fun _ _ => by kernel_rfl) row_56 ?_
    refine Good.cons rfl rfl 48 _ (fun _ _ => by kernel_rfl) row_57 ?_
    refine Good.cons rfl rfl 48 _ (fun _ _ => by kernel_rfl) row_58 ?_
    refine Good.cons rfl rfl 48 _ (fun _ _ => by kernel_rfl) row_59 ?_
    refine Good.cons rfl rfl 48 _ (fun _ _ => by kernel_rfl) row_60 ?_
    refine Good.cons rfl rfl 48 _ (fun _ _ => by kernel_rfl) row_61 ?_
    refine Good.cons rfl rfl 48 _ (fun _ _ => by kernel_rfl) row_62 ?_
    refine Good.cons rfl rfl 48 _ (fun _ _ => by kernel_rfl) row_63 ?_
    refine Good.cons rfl rfl 48 _ (fun _ _ => by kernel_rfl) row_64 ?_
    refine Good.cons rfl rfl 48 _ (fun _ _ => by kernel_rfl) row_65 ?_
    refine Good.cons rfl rfl 48 _ (fun _ _ => by kernel_rfl) row_66 ?_
    refine Good.cons rfl rfl 48 _ (fun _ _ => by kernel_rfl) row_67 ?_
    refine Good.cons rfl rfl 48 _ (fun _ _ => by kernel_rfl) row_68 ?_
    refine Good.cons rfl rfl 48 _ (fun _ _ => by kernel_rfl) row_69 ?_
    exact trivial
  case rest =>
    intro w1 hb
    refine Great.wpList_buildRows (vs := rowVals) (t := 80) (e := 65) (s := 14) (ix := fun i => 1 + i) (N := w1.heap.size) (dst := some 70) rfl _ rfl rfl rfl Try.underlying80 (by kernel_rfl) (by kernel_rfl) (by decide) (by decide) (by decide) (by kernel_rfl) ?cells ?ev ?next
    case cells =>
      have h : (rowVals.all fun v => v.cells.size == 14) = true := by kernel_rfl
      exact fun v hv => by simpa using List.all_eq_true.1 h v hv
    case ev => exact fun i h => puts_at rowVals 1 _ i h (by decide)
    case next =>
      refine wpList_frame (a' := ⟨#[.slice none 0 0, rv1, rv2, rv3, rv4, rv5, rv6, rv7, rv8, rv9, rv10, rv11, rv12, rv13, rv14, rv15, rv16, rv17, rv18, rv19, rv20, rv21, rv22, rv23, rv24, rv25, rv26, rv27, rv28, rv29, rv30, rv31, rv32, rv33, rv34, rv35, rv36, rv37, rv38, rv39, rv40, rv41, rv42, rv43, rv44, rv45, rv46, rv47, rv48, rv49, rv50, rv51, rv52, rv53, rv54, rv55, rv56, rv57, rv58, rv59, rv60, rv61, rv62, rv63, rv64, rv65, rv66, rv67, rv68, rv69, .slice (some ⟨w1.heap.size, 0, none⟩) 69 69], []⟩) (by kernel_rfl) ?_
      go_wp2
      go_ret
      exact ⟨w1, hb, rfl, rfl⟩
end Go.Proofs.Ytopehmpjfndgjaa

/- The names of the instructions, and what Name answers. -/
namespace Go.Proofs.Ytopehmpjfndgjaa
open Go.ChangeShapes Go.WideShapes Go.ChangeAt Go.RowKit
set_option linter.unusedVariables false
set_option linter.unusedSimpArgs false

namespace W
def nameL : List (List UInt8) := [[], [108, 117, 105], [97, 117, 105, 112, 99], [106, 97, 108], [106, 97, 108, 114], [98, 101, 113], [98, 110, 101], [98, 108, 116], [98, 103, 101], [98, 108, 116, 117], [98, 103, 101, 117], [108, 98], [108, 104], [108, 119], [108, 98, 117], [108, 104, 117], [115, 98], [115, 104], [115, 119], [97, 100, 100, 105], [115, 108, 116, 105], [115, 108, 116, 105, 117], [120, 111, 114, 105], [111, 114, 105], [97, 110, 100, 105], [115, 108, 108, 105], [115, 114, 108, 105], [115, 114, 97, 105], [97, 100, 100], [115, 117, 98], [115, 108, 108], [115, 108, 116], [115, 108, 116, 117], [120, 111, 114], [115, 114, 108], [115, 114, 97], [111, 114], [97, 110, 100], [102, 101, 110, 99, 101], [102, 101, 110, 99, 101, 46, 105], [101, 99, 97, 108, 108], [101, 98, 114, 101, 97, 107], [109, 114, 101, 116], [119, 102, 105], [115, 102, 101, 110, 99, 101, 46, 118, 109, 97], [99, 115, 114, 114, 119], [99, 115, 114, 114, 115], [99, 115, 114, 114, 99], [99, 115, 114, 114, 119, 105], [99, 115, 114, 114, 115, 105], [99, 115, 114, 114, 99, 105], [109, 117, 108], [109, 117, 108, 104], [109, 117, 108, 104, 115, 117], [109, 117, 108, 104, 117], [100, 105, 118], [100, 105, 118, 117], [114, 101, 109], [114, 101, 109, 117], [108, 114, 46, 119], [115, 99, 46, 119], [97, 109, 111, 115, 119, 97, 112, 46, 119], [97, 109, 111, 97, 100, 100, 46, 119], [97, 109, 111, 120, 111, 114, 46, 119], [97, 109, 111, 97, 110, 100, 46, 119], [97, 109, 111, 111, 114, 46, 119], [97, 109, 111, 109, 105, 110, 46, 119], [97, 109, 111, 109, 97, 120, 46, 119], [97, 109, 111, 109, 105, 110, 117, 46, 119], [97, 109, 111, 109, 97, 120, 117, 46, 119]]
def nameAt (k : Nat) : List UInt8 := nameL.getD k []
def nm (op : Int) : List UInt8 := bif known op then nameAt op.toNat else []
end W
def namesA : Array Value := (W.nameL.map fun l => Value.string ⟨l.toArray⟩).toArray

end Go.Proofs.Ytopehmpjfndgjaa

/- The document's Kind. -/
namespace Go.Proofs.Ytopehmpjfndgjaa
open Go.ChangeShapes Go.WideShapes Go.ChangeAt Go.RowKit
set_option linter.unusedVariables false
set_option linter.unusedSimpArgs false

end Go.Proofs.Ytopehmpjfndgjaa

/- What Uses answers. -/
namespace Go.Proofs.Ytopehmpjfndgjaa
open Go.ChangeShapes Go.WideShapes Go.ChangeAt Go.RowKit
set_option linter.unusedVariables false
set_option linter.unusedSimpArgs false
attribute [local go_sem ↓] Go.wp_at_zero Go.wp_at_succ

abbrev SU (w : World) (n : Nat) (s : W.Sh) (w' : World) : Prop :=
  Below w.heap.size w w' ∧ n < w'.heap.size ∧ w'.cell? ⟨n, 0, none⟩ = some (.int .u32 s.fixed) ∧ w'.cell? ⟨n, 1, none⟩ = some (.bool s.rd) ∧ w'.cell? ⟨n, 2, none⟩ = some (.bool s.rs1) ∧ w'.cell? ⟨n, 3, none⟩ = some (.bool s.rs2) ∧ w'.cell? ⟨n, 4, none⟩ = some (.bool s.csr) ∧ w'.cell? ⟨n, 5, none⟩ = some (.bool s.ord) ∧ w'.cell? ⟨n, 6, none⟩ = some (.int .u8 s.fmt) ∧ w'.cell? ⟨n, 7, none⟩ = some (.int .i64 s.low) ∧ w'.cell? ⟨n, 8, none⟩ = some (.int .i64 s.size)
theorem SU.below {w a b : World} {n : Nat} {s : W.Sh} (h : SU w n s a) (hm : Below a.heap.size a b) : SU w n s b := by
  obtain ⟨h1, h2, h3⟩ := h
  have q : ∀ j, b.cell? ⟨n, j, none⟩ = a.cell? ⟨n, j, none⟩ := fun j => hm.cell h2
  refine ⟨h1.trans (hm.mono h1.size), by have := hm.size; omega, ?_⟩
  simp only [q]
  exact h3
theorem SU.start {w w1 : World} {s : W.Sh} {t : TypeId} (hb : Below w.heap.size w w1) :
    SU w w1.heap.size s ((w1.alloc (.cells #[.int .u32 s.fixed, .bool s.rd, .bool s.rs1, .bool s.rs2, .bool s.csr, .bool s.ord, .int .u8 s.fmt, .int .i64 s.low, .int .i64 s.size] t)).drew) := by
  refine SU.below ⟨hb.alloc hb.size _, by simp, ?_⟩ (Below.refl _ _).drew
  simp [go_sem]

end Go.Proofs.Ytopehmpjfndgjaa
