
/-
  The statements' kind: which of n kinds a number is.
-/
import Derived.Test.YtjidekjeibdbgaaProg
import Derived.Test.YtjidekjeibdbgaaNMath
import Derived.WalkKit
namespace Go.Proofs.Ytjidekjeibdbgaa
open Go.RowKit

theorem rtmod_neg (z : Int) (hz : z < 0) (n : Int) (hn : 0 < n) : -((z + 1).tmod n) = (((-(z + 1)) % n).toNat : Int) := by
  rw [← Int.neg_tmod, Int.tmod_eq_emod_of_nonneg (by omega)]
  have := Int.emod_nonneg (-(z + 1)) (show n ≠ 0 by omega)
  omega
theorem rtmod_pos (z : Int) (hz : 0 ≤ z) (n : Int) (hn : 0 < n) : z.tmod n = ((z % n).toNat : Int) := by
  rw [Int.tmod_eq_emod_of_nonneg hz]
  have := Int.emod_nonneg z (show n ≠ 0 by omega)
  omega
theorem remod_toNat (z : Int) (n : Int) (hn : 0 < n) : z % n = ((z % n).toNat : Int) := by
  have := Int.emod_nonneg z (show n ≠ 0 by omega)
  omega
theorem rret_int {k : IntKind} {a b : Int} (h : a = b) : Ending.returned (.int k a) = .returned (.int k b) := by rw [h]
theorem rkind_any (z : Int) (hz : -9223372036854775808 ≤ z ∧ z ≤ 9223372036854775807) (n : Nat) (hn : 1 ≤ n) (hn2 : n ≤ 2000) (w : World) :
    Calls Try.prog 17 #[.int .i64 z, .int .i64 (n : Int)] w fun e w' => e = .returned (.int .i64 ((kindN z n : Nat) : Int)) ∧ w' = w := by
  obtain ⟨z0, z1⟩ := hz
  by_cases hneg : z < 0
  · go_enter Try.func17, Try.ntmps17
    go_wp2
    go_ret
    refine ⟨rret_int ?_, rfl⟩
    unfold kindN
    rw [if_pos hneg]
    exact rtmod_neg z hneg _ (by omega)
  · go_enter Try.func17, Try.ntmps17
    go_wp2
    go_ret
    refine ⟨rret_int ?_, rfl⟩
    unfold kindN
    rw [if_neg (by omega)]
    first | exact remod_toNat z _ (by omega) | exact rtmod_pos z (by omega) _ (by omega)

end Go.Proofs.Ytjidekjeibdbgaa
