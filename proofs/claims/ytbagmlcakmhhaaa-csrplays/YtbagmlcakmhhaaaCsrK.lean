/- The same contracts with what they come to written out ahead. -/
import Derived.Test.YtbagmlcakmhhaaaCsrL
import Derived.Test.YtbagmlcakmhhaaaCsrM
namespace Go.Proofs.Ytbagmlcakmhhaaa
open Go.ChangeShapes Go.WideShapes Go.ChangeAt Go.RowKit
set_option linter.unusedVariables false
set_option linter.unusedSimpArgs false

theorem set_g {w : World} {b : Nat} {G : W.F} {wr : World} (n v : Int) (r : Bool) (G' : W.F) (h : Ls w b G wr) (hr : W.setB G n = r) (hG : W.fset G n v = G') : Calls Try.prog 13 #[.pointer (some ⟨b, 0, none⟩), .int .i64 n, .int .u32 v] wr fun x w' => x = .returned (.bool r) ∧ Ls w b G' w' ∧ wr.grownBy w' (some b) :=
  (set_l n v h).mono fun x w' ⟨a, c, d⟩ => ⟨by rw [a, hr], hG ▸ c, d⟩
theorem get_g {w : World} {b : Nat} {G : W.F} {wr : World} (n x : Int) (r : Bool) (h : Ls w b G wr) (hx : W.getV G n = x) (hr : W.getB G n = r) : Calls Try.prog 21 #[.pointer (some ⟨b, 0, none⟩), .int .i64 n] wr fun y w' => y = .returned (.tuple #[.int .u32 x, .bool r]) ∧ wr = w' :=
  (get_l n h).mono fun y w' ⟨a, c⟩ => ⟨by rw [a, hx, hr], c⟩
theorem trap_g {w : World} {b : Nat} {G : W.F} {wr : World} (c t q x : Int) (G' : W.F) (h : Ls w b G wr) (hx : G.tvec = x) (hG : W.trap G c t q = G') : Calls Try.prog 17 #[.pointer (some ⟨b, 0, none⟩), .int .u32 c, .int .u32 t, .int .u32 q] wr fun y w' => y = .returned (.int .u32 x) ∧ Ls w b G' w' ∧ wr.grownBy w' (some b) :=
  (trap_l c t q h).mono fun y w' ⟨a, c, d⟩ => ⟨by rw [a, hx], hG ▸ c, d⟩
theorem return_g {w : World} {b : Nat} {G : W.F} {wr : World} (x : Int) (G' : W.F) (h : Ls w b G wr) (hx : G.epc = x) (hG : W.fret G = G') : Calls Try.prog 19 #[.pointer (some ⟨b, 0, none⟩)] wr fun y w' => y = .returned (.int .u32 x) ∧ Ls w b G' w' ∧ wr.grownBy w' (some b) :=
  (return_l h).mono fun y w' ⟨a, c, d⟩ => ⟨by rw [a, hx], hG ▸ c, d⟩
theorem bell_g {w : World} {b : Nat} {G : W.F} {wr : World} (on : Bool) (G' : W.F) (h : Ls w b G wr) (hG : W.bell G on = G') : Calls Try.prog 15 #[.pointer (some ⟨b, 0, none⟩), .bool on] wr fun y w' => y = .returned (.tuple #[]) ∧ Ls w b G' w' ∧ wr.grownBy w' (some b) :=
  (bell_l on h).mono fun y w' ⟨a, c, d⟩ => ⟨a, hG ▸ c, d⟩
theorem pending_g {w : World} {b : Nat} {G : W.F} {wr : World} (p : Bool) (x : Int) (h : Ls w b G wr) (hp : W.pend G = p) (hx : W.pendV G = x) : Calls Try.prog 23 #[.pointer (some ⟨b, 0, none⟩)] wr fun y w' => y = .returned (.tuple #[.int .u32 x, .bool p]) ∧ Ls w b G w' ∧ Below wr.heap.size wr w' :=
  (pending_l h).mono fun y w' ⟨a, c, d⟩ => ⟨by rw [a, hp, hx], c, d⟩
theorem mode_g {w : World} {b : Nat} {G : W.F} {wr : World} (x : Int) (h : Ls w b G wr) (hx : G.m = x) : Calls Try.prog 25 #[.pointer (some ⟨b, 0, none⟩)] wr fun y w' => y = .returned (.int .i64 x) ∧ wr = w' :=
  (mode_l h).mono fun y w' ⟨a, c⟩ => ⟨by rw [a, hx], c⟩
end Go.Proofs.Ytbagmlcakmhhaaa
