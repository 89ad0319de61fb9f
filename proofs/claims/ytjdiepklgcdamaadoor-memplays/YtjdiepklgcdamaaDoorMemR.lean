/- New of package mem, where it refuses. -/
import Derived.Test.YtjdiepklgcdamaaDoorMemL
import Derived.Test.YtjdiepklgcdamaaDoorSee7
import Derived.BigQuiet
namespace Go.Proofs.YtjdiepklgcdamaaDoor
open Go.ChangeShapes Go.WideShapes Go.ChangeAt Go.RowKit
set_option linter.unusedVariables false
set_option linter.unusedSimpArgs false

theorem new_range (A : Nat → Addr) (bytes : Int) (a : Option Addr) (k cap : Nat) (w : World) (hS : Sent A w) (h : bytes < 16 ∨ 65536 < bytes ∨ ¬ bytes % 16 = 0) : Calls Tryd.prog 9 #[.int .i64 bytes, .slice a k cap] w fun e w' => e = .returned (.tuple #[.pointer none, errV A 1]) ∧ Below w.heap.size w w' := by
  have c0 := hS.cell 0 (by omega)
  unfold errV
  by_cases h1 : bytes < 16
  · clear h hS
    go_enter Tryd.func9, Tryd.ntmps9
    go_wp2
    go_quiet (fail)
    go_wp2
    exact bodyPost_ret (v := .tuple #[.pointer none, .iface 94 (.pointer (some (A 0)))]) (by simp [results, Tryd.results9, go_sem]) rfl ⟨rfl, below_drewN (Below.refl _ _) _⟩
  by_cases h2 : 65536 < bytes
  · clear h hS
    go_enter Tryd.func9, Tryd.ntmps9
    go_wp2
    go_quiet (fail)
    go_wp2
    exact bodyPost_ret (v := .tuple #[.pointer none, .iface 94 (.pointer (some (A 0)))]) (by simp [results, Tryd.results9, go_sem]) rfl ⟨rfl, below_drewN (Below.refl _ _) _⟩
  have h3 : (bytes % 16 == 0) = false := by
    have : ¬ bytes % 16 = 0 := by omega
    simpa using this
  have h4 : (bytes % 16 != 0) = true := by
    have : ¬ bytes % 16 = 0 := by omega
    simpa using this
  have h5 : bytes.tmod 16 = bytes % 16 := Int.tmod_eq_emod_of_nonneg (by omega)
  clear h hS
  go_enter Tryd.func9, Tryd.ntmps9
  go_wp2
  go_quiet (fail)
  go_wp2
  exact bodyPost_ret (v := .tuple #[.pointer none, .iface 94 (.pointer (some (A 0)))]) (by simp [results, Tryd.results9, go_sem]) rfl ⟨rfl, below_drewN (Below.refl _ _) _⟩

theorem new_many (A : Nat → Addr) (n : Nat) (bytes : Int) (a : Option Addr) (k cap : Nat) (w : World) (hS : Sent A w) (hb : bytes = 16 * n) (n1 : 1 ≤ n) (n2 : n ≤ 4096) (hk : 4 * n < k) (hk2 : k ≤ 2000) : Calls Tryd.prog 9 #[.int .i64 bytes, .slice a k cap] w fun e w' => e = .returned (.tuple #[.pointer none, errV A 2]) ∧ Below w.heap.size w w' := by
  have c0 := hS.cell 1 (by omega)
  unfold errV
  have e1 : bytes % 16 = 0 := by omega
  have e2 : bytes / 16 = n := by omega
  have e3 : bytes / 4 = 4 * n := by omega
  have e4 : ¬ bytes < 16 := by omega
  have e5 : ¬ 65536 < bytes := by omega
  have e6 : (4 * n : Int) < k := by omega
  clear hS
  go_enter Tryd.func9, Tryd.ntmps9
  go_wp2
  go_quiet (fail)
  go_wp2
  exact bodyPost_ret (v := .tuple #[.pointer none, .iface 94 (.pointer (some (A 1)))]) (by simp [results, Tryd.results9, go_sem]) rfl ⟨rfl, below_drewN (Below.refl _ _) _⟩
end Go.Proofs.YtjdiepklgcdamaaDoor
