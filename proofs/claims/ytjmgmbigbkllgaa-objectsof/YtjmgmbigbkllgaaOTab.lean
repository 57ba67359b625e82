
/-
  Tables by value, and the rows of a store; mayMake.
-/
import Derived.Test.YtjmgmbigbkllgaaOFr
import Derived.Test.YtjmgmbigbkllgaaEnRows
import Derived.Deep.QuietTactic
import Derived.BigQuiet
import Derived.BigRegion
import Derived.Deep.Cut
namespace Go.Proofs.Ytjmgmbigbkllgaa
open Go.ChangeShapes Go.WideShapes Go.ChangeAt Go.RowKit Go.Joins
set_option maxRecDepth 10000
set_option linter.unusedVariables false
set_option linter.unusedSimpArgs false

/-- A table by value. -/
def tabV (f : Nat → En) : Array Value := iv .i64 (rowE 49 f)
theorem tabV_size (f : Nat → En) : (tabV f).size = 147 := by unfold tabV; rw [iv_size, rowE_len]
theorem tabV_one (f : Nat → En) : (tabV f).all (·.oneCell') = true := iv_one _ _
theorem tabV_list (f : Nat → En) : (tabV f).toList = (List.range 147).map fun j => Value.int .i64 (fl3 f j) := by simp [tabV, iv, rowE]
theorem s147_tab (f : Nat → En) : (Try.prog.info? 59).map (·.size) = some (tabV f).size := s147_of _ (rowE_len _ _)
theorem s3_ev (c : En) : (Try.prog.info? 23).map (·.size) = some (ev c).size := size3
section
variable {m : Nat} {S : Sto} {w : World} {b : Nat}
theorem SRep.rw (h : SRep m S w b) : w.rangeAt b 1027 (tabV S.w).toList := by rw [tabV_list]; exact Blk.range h 1027 147 (by decide) _ fun j hj => stF_w m S j hj
theorem SRep.rb (h : SRep m S w b) : w.rangeAt b 1174 (tabV S.b).toList := by rw [tabV_list]; exact Blk.range h 1174 147 (by decide) _ fun j hj => stF_b m S j hj
theorem SRep.rk (h : SRep m S w b) : w.rangeAt b 1329 (tabV S.k).toList := by rw [tabV_list]; exact Blk.range h 1329 147 (by decide) _ fun j hj => stF_k m S j hj
theorem fl3_0 (f : Nat → En) (i : Nat) : fl3 f (i * 3) = (f i).k := by unfold fl3; rw [if_pos (by omega), show i * 3 / 3 = i by omega]
theorem fl3_1 (f : Nat → En) (i : Nat) : fl3 f (i * 3 + 1) = (f i).v := by unfold fl3; rw [if_neg (by omega), if_pos (by omega), show (i * 3 + 1) / 3 = i by omega]
theorem fl3_2 (f : Nat → En) (i : Nat) : fl3 f (i * 3 + 2) = (f i).l := by unfold fl3; rw [if_neg (by omega), if_neg (by omega), show (i * 3 + 2) / 3 = i by omega]
theorem SRep.ck (h : SRep m S w b) (i : Nat) (hi : i < 49) : w.cell? ⟨b, 1027 + i * 3, none⟩ = some (.int .i64 (S.w i).k) := by
  rw [Blk.cell h _ (by omega), stF_w _ _ _ (by omega), fl3_0]
theorem SRep.en (h : SRep m S w b) (i : Nat) (hi : i < 49) : w.rangeAt b (1027 + i * 3) (ev (S.w i)).toList := fun j v hv => by
  rw [ev_list] at hv
  match j, hv with
  | 0, hv => show w.cell? ⟨b, 1027 + i * 3, none⟩ = _; rw [h.ck i hi]; simpa using hv
  | 1, hv => rw [Blk.cell h _ (by omega), show 1027 + i * 3 + 1 = 1027 + (i * 3 + 1) by omega, stF_w _ _ _ (by omega), fl3_1]; simpa using hv
  | 2, hv => rw [Blk.cell h _ (by omega), show 1027 + i * 3 + 2 = 1027 + (i * 3 + 2) by omega, stF_w _ _ _ (by omega), fl3_2]; simpa using hv
  | j + 3, hv => simp at hv
theorem SRep.below {w' : World} (h : SRep m S w b) (hb : Below w.heap.size w w') : SRep m S w' b := Blk.keeps (F := fun _ => False) h (Keeps.of_below hb) id
theorem SRep.frs (h : SRep m S w b) : SFr m S w b S.F := h
end

/-- A whole table loaded, by an operation that is wanted. -/
theorem wpList_load_tab {ops : Array Oper} {rest : List Oper} {o : Oper} {a : Act} {w : World} {Q : Exit → Act → World → Prop} (hw : Region.wanted o (yielded ops a.tmps) = true) (x : Operand) (ho : o.op = .load 59 x)
    (g off : Nat) (hx : a.eval x = .pointer (some ⟨g, off, none⟩)) (f : Nat → En) (hc : w.rangeAt g off (tabV f).toList)
    (h : wpList Try.prog ops Q rest (a.put o.dst (.agg (tabV f))) w) : wpList Try.prog ops Q (o :: rest) a w :=
  wpList_step fun K hK => by
    rw [if_pos hw]
    exact wp_load_mid 59 x ho g off hx (tabV f).toList _ hc Try.underlying59 rfl (by rw [Array.length_toList]; exact s147_tab f) (hK _ _ (by simpa using h))

theorem mayMake_any (z : Int) (w : World) : Calls Try.prog 52 #[.int .i64 z] w fun e w' => e = .returned (.bool (mkB z)) ∧ w' = w := by
  by_cases h1 : z = 1
  · subst h1
    go_enter Try.func52, Try.ntmps52
    go_wp2_with fail
    go_ret
    exact ⟨rfl, rfl⟩
  · have e1 : (z == 1) = false := by simpa using h1
    by_cases h2 : z = 2
    · subst h2
      go_enter Try.func52, Try.ntmps52
      go_wp2_with fail
      go_ret
      exact ⟨rfl, rfl⟩
    · have e2 : (z == 2) = false := by simpa using h2
      have HM : Hid (mkB z = (z == 4)) := by
        show _ = _
        rw [Bool.eq_iff_iff, mkB_iff, beq_iff_eq]
        constructor
        · rintro (h | h | h)
          · exact absurd h h1
          · exact absurd h h2
          · exact h
        · exact fun h => Or.inr (Or.inr h)
      clear h1 h2
      cases e4 : (z == 4) with
      | true =>
        rw [e4] at HM
        go_enter Try.func52, Try.ntmps52
        go_wp2_with fail
        go_ret
        exact ⟨by rw [unhide HM]; rfl, rfl⟩
      | false =>
        rw [e4] at HM
        go_enter Try.func52, Try.ntmps52
        go_wp2_with fail
        go_ret
        exact ⟨by rw [unhide HM]; rfl, rfl⟩

end Go.Proofs.Ytjmgmbigbkllgaa
