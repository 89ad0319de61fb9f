/- MemPlays, walked: whatever lies in its two slices. -/
import Derived.Test.YtjdiepklgcdamaaDoorMemPlaysC
namespace Go.Proofs.YtjdiepklgcdamaaDoor
open Go.ChangeShapes Go.WideShapes Go.ChangeAt Go.RowKit
set_option linter.unusedVariables false

/-- What a slice of words that can be read holds. -/
def IsWords (w : World) (a : Option Addr) (k : Nat) : Prop :=
  k ≤ maxLen ∧ ∃ (b off : Nat) (u : Nat → Int), (0 < k → a = some ⟨b, off, none⟩ ∧ b < w.heap.size) ∧ (∀ j, j < k → w.cell? ⟨b, off + j, none⟩ = some (.int .u32 (u j))) ∧ ∀ j, 0 ≤ u j ∧ u j < 4294967296
/-- What a slice of things told that can be read holds. -/
def IsDos (w : World) (a : Option Addr) (k : Nat) : Prop :=
  k ≤ maxLen ∧ ∃ (b off : Nat) (dk ds di : Nat → Int) (da : Nat → Nat) (dv : Nat → Int) (dl : Nat → Nat → Int), (0 < k → a = some ⟨b, off, none⟩ ∧ b < w.heap.size) ∧
    (∀ j, j < k → w.cell? ⟨b, off + j * 9, none⟩ = some (.int .i64 (dk j)) ∧ w.cell? ⟨b, off + j * 9 + 1, none⟩ = some (.int .i64 (ds j)) ∧ w.cell? ⟨b, off + j * 9 + 2, none⟩ = some (.int .i64 (di j)) ∧ w.cell? ⟨b, off + j * 9 + 3, none⟩ = some (.int .u32 ((da j : Nat) : Int)) ∧ w.cell? ⟨b, off + j * 9 + 4, none⟩ = some (.int .u32 (dv j)) ∧ w.cell? ⟨b, off + j * 9 + 5, none⟩ = some (.int .u32 (dl j 0)) ∧ w.cell? ⟨b, off + j * 9 + 6, none⟩ = some (.int .u32 (dl j 1)) ∧ w.cell? ⟨b, off + j * 9 + 7, none⟩ = some (.int .u32 (dl j 2)) ∧ w.cell? ⟨b, off + j * 9 + 8, none⟩ = some (.int .u32 (dl j 3))) ∧
    (∀ j, da j < 4294967296) ∧ (∀ j, 0 ≤ dv j ∧ dv j < 4294967296) ∧ ∀ j i, 0 ≤ dl j i ∧ dl j i < 4294967296

theorem memPlays_walk (A : Nat → Addr) (bytes : Int) (a : Option Addr) (k cap : Nat) (a2 : Option Addr) (k2 cap2 : Nat) (addr size line : Int) (a0 : 0 ≤ addr) (a1 : addr < 4294967296) (w : World) (hW : IsWords w a k) (hD : IsDos w a2 k2) (hS : Sent A w) : Calls Tryd.prog 3 #[.int .i64 bytes, .slice a k cap, .slice a2 k2 cap2, .int .u32 addr, .int .i64 size, .int .i64 line] w fun e w' => e = .returned (.bool true) ∧ Below w.heap.size w w' := by
  obtain ⟨hm1, ba, off, u, q1, q2, q3⟩ := hW
  obtain ⟨hm2, bd, od, dk, ds, di, da, dv, dl, r1, r2, r3, r4, r5⟩ := hD
  by_cases hl : 2000 < k ∨ 60 < k2
  · exact memPlays_long bytes addr size line a k cap a2 k2 cap2 w hl hm1 hm2
  by_cases hr : bytes < 16 ∨ 65536 < bytes ∨ ¬ bytes % 16 = 0
  · exact memPlays_range A bytes addr size line a k cap a2 k2 cap2 w hS (by omega) (by omega) hr
  obtain ⟨n, hn⟩ : ∃ n : Nat, bytes = 16 * n := ⟨(bytes / 16).toNat, by omega⟩
  by_cases hmany : 4 * n < k
  · exact memPlays_many A n bytes addr size line a k cap a2 k2 cap2 w hS (by omega) (by omega) hn (by omega) (by omega) hmany
  obtain ⟨m, hm⟩ : ∃ m : Nat, 16 * n = m := ⟨_, rfl⟩
  obtain rfl : bytes = (m : Int) := by omega
  obtain ⟨Ad, rfl⟩ := Int.eq_ofNat_of_zero_le a0
  by_cases hbig : 4096 < m
  · exact memPlays_big A n m Ad size line a ba off k cap a2 k2 cap2 u w hS (by omega) (by omega) hm (by omega) (by omega) (by omega) hbig q1 q2 q3
  · exact memPlays_small A n m Ad size line (by omega) a ba off k cap a2 bd od k2 cap2 u dk ds di da dv dl w hS (by omega) (by omega) hm (by omega) (by omega) (by omega) (by omega) q1 q2 q3 r1 r2 r3 r4 r5
end Go.Proofs.YtjdiepklgcdamaaDoor
