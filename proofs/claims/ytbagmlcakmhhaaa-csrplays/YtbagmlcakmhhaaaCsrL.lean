/- A file of a law's own, while calls go on; the chapter's examples. -/
import Derived.Test.YtbagmlcakmhhaaaCsrE
import Derived.Test.YtbagmlcakmhhaaaCsrF
namespace Go.Proofs.Ytbagmlcakmhhaaa
open Go.ChangeShapes Go.WideShapes Go.ChangeAt Go.RowKit
set_option linter.unusedVariables false
set_option linter.unusedSimpArgs false

/-- Since the world w a file G has been made in block b. -/
structure Ls (w : World) (b : Nat) (G : W.F) (wr : World) : Prop where
  bel : Below w.heap.size w wr
  at_ : At 26 b G wr
  le : w.heap.size ≤ b
theorem Ls.lt {w : World} {b : Nat} {G : W.F} {wr : World} (h : Ls w b G wr) : b < wr.heap.size := h.at_.lt
theorem Ls.grown {w : World} {b : Nat} {G G' : W.F} {wr w' : World} (h : Ls w b G wr) (h2 : At 26 b G' w') (hg : wr.grownBy w' (some b)) : Ls w b G' w' :=
  ⟨h.bel.grown hg h.bel.size (fun k hk => by cases hk; exact h.le), h2, h.le⟩
theorem Ls.call {w : World} {b : Nat} {G : W.F} {wr w' : World} (h : Ls w b G wr) (hb : Below wr.heap.size wr w') : Ls w b G w' :=
  ⟨h.bel.trans (hb.mono h.bel.size), h.at_.below hb, h.le⟩
theorem Ls.other {w : World} {b c : Nat} {G : W.F} {wr w' : World} (h : Ls w b G wr) (hg : wr.grownBy w' (some c)) (hne : b ≠ c) (hc : w.heap.size ≤ c) : Ls w b G w' :=
  ⟨h.bel.grown hg h.bel.size (fun k hk => by cases hk; exact hc), h.at_.kept hg hne, h.le⟩
theorem Ls.start {w wr : World} (G : W.F) (hb : Below w.heap.size w wr) : Ls w wr.heap.size G (wr.alloc (.cells (fileCells G) 26)) :=
  ⟨hb.alloc hb.size _, At.new _, hb.size⟩

theorem set_l {w : World} {b : Nat} {G : W.F} {wr : World} (n v : Int) (h : Ls w b G wr) : Calls Try.prog 13 #[.pointer (some ⟨b, 0, none⟩), .int .i64 n, .int .u32 v] wr fun x w' => x = .returned (.bool (W.setB G n)) ∧ Ls w b (W.fset G n v) w' ∧ wr.grownBy w' (some b) :=
  (set_any _ b G n v wr h.at_).mono fun x w' ⟨a, c, d⟩ => ⟨a, h.grown c d, d⟩
theorem set_m {w : World} {b : Nat} {G : W.F} {wr : World} (n v : Int) (h : Ls w b G wr) (hm : G.m = 3) (hn : W.isSet n = true) : Calls Try.prog 13 #[.pointer (some ⟨b, 0, none⟩), .int .i64 n, .int .u32 v] wr fun x w' => x = .returned (.bool true) ∧ Ls w b (W.fset G n v) w' ∧ wr.grownBy w' (some b) :=
  (set_l n v h).mono fun x w' ⟨a, c, d⟩ => ⟨by rw [a]; simp [W.setB, hm, hn], c, d⟩
theorem get_l {w : World} {b : Nat} {G : W.F} {wr : World} (n : Int) (h : Ls w b G wr) : Calls Try.prog 21 #[.pointer (some ⟨b, 0, none⟩), .int .i64 n] wr fun x w' => x = .returned (.tuple #[.int .u32 (W.getV G n), .bool (W.getB G n)]) ∧ wr = w' :=
  get_any _ b G n wr h.at_
theorem get_m {w : World} {b : Nat} {G : W.F} {wr : World} (n : Int) (h : Ls w b G wr) (hm : G.m = 3) (hn : W.isReg n = true) : Calls Try.prog 21 #[.pointer (some ⟨b, 0, none⟩), .int .i64 n] wr fun x w' => x = .returned (.tuple #[.int .u32 (W.reg G n), .bool true]) ∧ wr = w' :=
  (get_any _ b G n wr h.at_).mono fun x w' ⟨a, c⟩ => ⟨by rw [a]; simp [W.getV, W.getB, hm, hn], c⟩
theorem bell_l {w : World} {b : Nat} {G : W.F} {wr : World} (on : Bool) (h : Ls w b G wr) : Calls Try.prog 15 #[.pointer (some ⟨b, 0, none⟩), .bool on] wr fun x w' => x = .returned (.tuple #[]) ∧ Ls w b (W.bell G on) w' ∧ wr.grownBy w' (some b) :=
  (bell_any _ b G on wr h.at_).mono fun x w' ⟨a, c, d⟩ => ⟨a, h.grown c d, d⟩
theorem trap_l {w : World} {b : Nat} {G : W.F} {wr : World} (c t q : Int) (h : Ls w b G wr) : Calls Try.prog 17 #[.pointer (some ⟨b, 0, none⟩), .int .u32 c, .int .u32 t, .int .u32 q] wr fun x w' => x = .returned (.int .u32 G.tvec) ∧ Ls w b (W.trap G c t q) w' ∧ wr.grownBy w' (some b) :=
  (trap_any _ b G c t q wr h.at_).mono fun x w' ⟨a, c, d⟩ => ⟨a, h.grown c d, d⟩
theorem return_l {w : World} {b : Nat} {G : W.F} {wr : World} (h : Ls w b G wr) : Calls Try.prog 19 #[.pointer (some ⟨b, 0, none⟩)] wr fun x w' => x = .returned (.int .u32 G.epc) ∧ Ls w b (W.fret G) w' ∧ wr.grownBy w' (some b) :=
  (return_any _ b G wr h.at_).mono fun x w' ⟨a, c, d⟩ => ⟨a, h.grown c d, d⟩
theorem mode_l {w : World} {b : Nat} {G : W.F} {wr : World} (h : Ls w b G wr) : Calls Try.prog 25 #[.pointer (some ⟨b, 0, none⟩)] wr fun x w' => x = .returned (.int .i64 G.m) ∧ wr = w' :=
  mode_any _ b G wr h.at_
theorem satp_l {w : World} {b : Nat} {G : W.F} {wr : World} (h : Ls w b G wr) : Calls Try.prog 26 #[.pointer (some ⟨b, 0, none⟩)] wr fun x w' => x = .returned (.int .u32 G.satp) ∧ wr = w' :=
  satp_any _ b G wr h.at_
theorem pending_l {w : World} {b : Nat} {G : W.F} {wr : World} (h : Ls w b G wr) : Calls Try.prog 23 #[.pointer (some ⟨b, 0, none⟩)] wr fun x w' => x = .returned (.tuple #[.int .u32 (W.pendV G), .bool (W.pend G)]) ∧ Ls w b G w' ∧ Below wr.heap.size wr w' :=
  (pending_any _ b G wr h.at_).mono fun x w' ⟨a, c⟩ => ⟨a, h.call c, c⟩

theorem first6_any (w : World) : Calls Try.prog 9 #[] w fun e w' => e = .returned (.bool true) ∧ Below w.heap.size w w' := by
  have e1 : (W.reg (W.fset (W.fnew 3) 768 6152) 768 == 6152) = true := by kernel_rfl
  have e2 : (W.reg (W.fset (W.fset (W.fnew 3) 768 6152) 773 7) 773 == 4) = true := by kernel_rfl
  have e3 : (W.reg (W.fset (W.fset (W.fnew 3) 768 6152) 773 7) 3860 == 3) = true := by kernel_rfl
  have e4 : ((W.fset (W.fset (W.fnew 3) 768 6152) 773 7).m == 3) = true := by kernel_rfl
  go_enter Try.func9, Try.ntmps9
  go_wp2_with (go_at_call 10; refine (new_any _ _).mono ?_; rintro e w1 ⟨rfl, hb⟩; unfold fileCells W.fnew)
  have hL := Ls.start (W.fnew 3) hb
  go_wp2_with (first
    | (go_at_call 13; refine (set_m _ _ (by exact hL) (by rfl) (by rfl)).mono ?_; clear hL; rintro e w' ⟨rfl, hL, _⟩)
    | (go_at_call 21; refine (get_m _ (by exact hL) (by rfl) (by rfl)).mono ?_; rintro e w' ⟨rfl, rfl⟩)
    | (go_at_call 25; refine (mode_l (by exact hL)).mono ?_; rintro e w' ⟨rfl, rfl⟩))
  go_ret
  exact ⟨rfl, hL.bel⟩
end Go.Proofs.Ytbagmlcakmhhaaa
