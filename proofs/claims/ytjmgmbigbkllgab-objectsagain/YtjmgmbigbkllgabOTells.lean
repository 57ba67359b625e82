
/-
  What tells of a store: Table, Base, Marked, Left; Take, Mark.
-/
import Derived.Test.YtjmgmbigbkllgabOPut
import Derived.Test.YtjmgmbigbkllgabFMake
namespace Go.Proofs.Ytjmgmbigbkllgab
open Go.ChangeShapes Go.WideShapes Go.ChangeAt Go.RowKit Go.Joins
set_option maxRecDepth 10000
set_option linter.unusedVariables false
set_option linter.unusedSimpArgs false

def dirTo8 (d : Nat → Int) : List Int := (List.range 8).map d
/-- A Dir by value. -/
def dirV (d : Nat → Int) : Array Value := iv .i64 (dirTo8 d)
theorem dirV_size (d : Nat → Int) : (dirV d).size = 8 := by unfold dirV; rw [iv_size]; simp [dirTo8]
theorem dirV_one (d : Nat → Int) : (dirV d).all (·.oneCell') = true := iv_one _ _
theorem dirV_list (d : Nat → Int) : (dirV d).toList = (List.range 8).map fun j => Value.int .i64 (d j) := by simp [dirV, iv, dirTo8]
theorem s8_dir (d : Nat → Int) : (Try.prog.info? 62).map (·.size) = some (dirV d).size := by rw [dirV_size]; kernel_rfl
theorem SRep.rd {m : Nat} {S : Sto} {w : World} {b : Nat} (h : SRep m S w b) : w.rangeAt b 1321 (dirV S.d).toList := by rw [dirV_list]; exact Blk.range h 1321 8 (by decide) _ fun j hj => stF_d m S j hj
theorem zero_tab : (Try.prog.info? 55).map (·.zero) = some (some (.agg (tabV fun _ => ze))) := by kernel_rfl
theorem zero_dir : (Try.prog.info? 62).map (·.zero) = some (some (.agg (dirV fun _ => 0))) := by kernel_rfl
theorem SRep.cis {m : Nat} {S : Sto} {w : World} {b : Nat} (h : SRep m S w b) : w.cell? ⟨b, 1476, none⟩ = some (.bool S.is) := Blk.cell h 1476 (by decide)

theorem keeps_cells (b : Nat) (vs : List Value) : ∀ (w : World) (o : Nat), Keeps (· = b) w (w.setCells b o vs) := by
  induction vs with
  | nil => exact fun w o => Keeps.refl _ _
  | cons v r ih => exact fun w o => (Keeps.setCell (F := (· = b)) (p := ⟨b, o, none⟩) (Keeps.refl _ _) rfl v).trans' (ih _ (o + 1))
theorem tabV_get (f : Nat → En) (j : Nat) (h : j < 147) : (tabV f).toList.getD j undef = .int .i64 (fl3 f j) := by
  rw [tabV_list, List.getD_eq_getElem?_getD, List.getElem?_map, List.getElem?_range h]; rfl
theorem dirV_get (d : Nat → Int) (j : Nat) (h : j < 8) : (dirV d).toList.getD j undef = .int .i64 (d j) := by
  rw [dirV_list, List.getD_eq_getElem?_getD, List.getElem?_map, List.getElem?_range h]; rfl
section
variable {m : Nat} {S : Sto} {w : World} {b : Nat}
theorem SRep.putK (h : SRep m S w b) (f : Nat → En) : SRep m ⟨S.F, S.w, S.b, S.d, f, S.is⟩ (w.setCells b 1329 (tabV f).toList) b := by
  refine (Blk.sets (tabV f).toList w _ 1329 h).ext fun j hj => ?_
  rw [Array.length_toList, tabV_size]
  by_cases c : 1329 ≤ j ∧ j < 1329 + 147
  · obtain ⟨n, rfl⟩ : ∃ n, j = 1329 + n := ⟨j - 1329, by omega⟩
    rw [if_pos c, show 1329 + n - 1329 = n by omega, tabV_get f n (by omega), stF_k _ _ _ (by omega)]
  · rw [if_neg c]
    unfold stF
    by_cases h0 : j = 0
    · rw [if_pos h0, if_pos h0]
    · rw [if_neg h0, if_neg h0]
      by_cases h1 : j < 1027
      · rw [if_pos h1, if_pos h1]
      · rw [if_neg h1, if_neg h1]
        by_cases h2 : j < 1174
        · rw [if_pos h2, if_pos h2]
        · rw [if_neg h2, if_neg h2]
          by_cases h3 : j < 1321
          · rw [if_pos h3, if_pos h3]
          · rw [if_neg h3, if_neg h3]
            by_cases h4 : j < 1329
            · rw [if_pos h4, if_pos h4]
            · rw [if_neg h4, if_neg h4, if_neg (show ¬ j < 1476 by omega), if_neg (show ¬ j < 1476 by omega)]
theorem SRep.putB (h : SRep m S w b) (f : Nat → En) : SRep m ⟨S.F, S.w, f, S.d, S.k, S.is⟩ (w.setCells b 1174 (tabV f).toList) b := by
  refine (Blk.sets (tabV f).toList w _ 1174 h).ext fun j hj => ?_
  rw [Array.length_toList, tabV_size]
  by_cases c : 1174 ≤ j ∧ j < 1174 + 147
  · obtain ⟨n, rfl⟩ : ∃ n, j = 1174 + n := ⟨j - 1174, by omega⟩
    rw [if_pos c, show 1174 + n - 1174 = n by omega, tabV_get f n (by omega), stF_b _ _ _ (by omega)]
  · rw [if_neg c]
    unfold stF
    by_cases h0 : j = 0
    · rw [if_pos h0, if_pos h0]
    · rw [if_neg h0, if_neg h0]
      by_cases h1 : j < 1027
      · rw [if_pos h1, if_pos h1]
      · rw [if_neg h1, if_neg h1]
        by_cases h2 : j < 1174
        · rw [if_pos h2, if_pos h2]
        · rw [if_neg h2, if_neg h2, if_neg (show ¬ j < 1321 by omega), if_neg (show ¬ j < 1321 by omega)]
theorem SRep.putD (h : SRep m S w b) (d : Nat → Int) : SRep m ⟨S.F, S.w, S.b, d, S.k, S.is⟩ (w.setCells b 1321 (dirV d).toList) b := by
  refine (Blk.sets (dirV d).toList w _ 1321 h).ext fun j hj => ?_
  rw [Array.length_toList, dirV_size]
  by_cases c : 1321 ≤ j ∧ j < 1321 + 8
  · obtain ⟨n, rfl⟩ : ∃ n, j = 1321 + n := ⟨j - 1321, by omega⟩
    rw [if_pos c, show 1321 + n - 1321 = n by omega, dirV_get d n (by omega), stF_d _ _ _ (by omega)]
  · rw [if_neg c]
    unfold stF
    by_cases h0 : j = 0
    · rw [if_pos h0, if_pos h0]
    · rw [if_neg h0, if_neg h0]
      by_cases h1 : j < 1027
      · rw [if_pos h1, if_pos h1]
      · rw [if_neg h1, if_neg h1]
        by_cases h2 : j < 1174
        · rw [if_pos h2, if_pos h2]
        · rw [if_neg h2, if_neg h2]
          by_cases h3 : j < 1321
          · rw [if_pos h3, if_pos h3]
          · rw [if_neg h3, if_neg h3, if_neg (show ¬ j < 1329 by omega), if_neg (show ¬ j < 1329 by omega)]
theorem SRep.putIs (h : SRep m S w b) (x : Bool) : SRep m ⟨S.F, S.w, S.b, S.d, S.k, x⟩ (w.setCell ⟨b, 1476, none⟩ (.bool x)) b := by
  refine (Blk.set h 1476 (.bool x)).ext fun j hj => ?_
  by_cases e : j = 1476
  · subst e; rw [upd_same]; rfl
  · rw [upd_other _ _ _ _ e]
    unfold stF
    by_cases h0 : j = 0
    · rw [if_pos h0, if_pos h0]
    · rw [if_neg h0, if_neg h0]
      by_cases h1 : j < 1027
      · rw [if_pos h1, if_pos h1]
      · rw [if_neg h1, if_neg h1]
        by_cases h2 : j < 1174
        · rw [if_pos h2, if_pos h2]
        · rw [if_neg h2, if_neg h2]
          by_cases h3 : j < 1321
          · rw [if_pos h3, if_pos h3]
          · rw [if_neg h3, if_neg h3]
            by_cases h4 : j < 1329
            · rw [if_pos h4, if_pos h4]
            · rw [if_neg h4, if_neg h4, if_pos (show j < 1476 by omega), if_pos (show j < 1476 by omega)]
end

end Go.Proofs.Ytjmgmbigbkllgab
