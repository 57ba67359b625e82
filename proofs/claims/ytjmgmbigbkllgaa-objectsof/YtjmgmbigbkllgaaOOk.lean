
/-
  Stores and memories stay such, whatever is called. No program.
-/
import Derived.Test.YtjmgmbigbkllgaaOTake
import Derived.Test.YtjmgmbigbkllgaaOPut
namespace Go.Proofs.Ytjmgmbigbkllgaa
set_option linter.unusedVariables false

theorem setM_ok {S : Sto} {A : Mm} {B : Nat} (h : A.ok B) (z q v : Int) (hv : InU v) : (S.setM A z q v).ok (B + 8) := by
  unfold Sto.setM
  split
  · split
    · exact ok_mono (ok_storeZ h _ q v hv) (by omega)
    · split
      · exact layM_ok h _ (copy_inU h S z q v hv)
      · exact ok_mono h (by omega)
  · exact ok_mono h (by omega)
theorem makeM_ok {S : Sto} {A : Mm} {B : Nat} (h : A.ok B) (z : Int) : (S.makeM A z).ok (B + 8) := by
  unfold Sto.makeM
  split
  · exact layM_ok h _ (fun j => by show InU 0; exact ⟨by decide, by decide⟩)
  · exact ok_mono h (by omega)
theorem setM_n (S : Sto) (A : Mm) (z q v : Int) : (S.setM A z q v).n = A.n := by
  unfold Sto.setM
  split
  · split
    · exact storeZ_n _ _ _ _
    · split
      · exact layM_n _ _ _
      · rfl
  · rfl
theorem makeM_n (S : Sto) (A : Mm) (z : Int) : (S.makeM A z).n = A.n := by
  unfold Sto.makeM
  split
  · exact layM_n _ _ _
  · rfl
theorem ofS_ok {F : Fr} (h : F.ok) {t : Nat → En} (ht : ∀ i, i < 49 → v24 (t i).v) (d : Nat → Int) : (ofS F t d).ok := ⟨takeL_ok _ h, ht⟩
theorem new0_ok (n : Nat) (h1 : 64 ≤ n) (h2 : n ≤ 1024) : (Mm.new n fun _ _ => 0).ok 0 := ok_new h1 h2 fun _ _ => ⟨by decide, by decide⟩

end Go.Proofs.Ytjmgmbigbkllgaa
