
/-
  What tells of a store: Table, Base, Marked, Left; Take, Mark.
-/
import Derived.Test.YtjmgmbigbkllgaaOPut
import Derived.Test.YtjmgmbigbkllgaaFMake
namespace Go.Proofs.Ytjmgmbigbkllgaa
open Go.ChangeShapes Go.WideShapes Go.ChangeAt Go.RowKit Go.Joins
set_option maxRecDepth 10000
set_option linter.unusedVariables false
set_option linter.unusedSimpArgs false

def dirTo8 (d : Nat → Int) : List Int := (List.range 8).map d
/-- A Dir by value. -/
def dirV (d : Nat → Int) : Array Value := iv .i64 (dirTo8 d)
theorem dirV_size (d : Nat → Int) : (dirV d).size = 8 := by unfold dirV; rw [iv_size]; simp [dirTo8]
theorem dirV_one (d : Nat → Int) : (dirV d).all (·.oneCell') = true := iv_one _ _
theorem dirV_list (d : Nat → Int) : (dirV d).toList = (List.range 8).map fun j => Value.int .i64 (d j) := by simp [dirV, iv, dirTo8]
theorem s8_dir (d : Nat → Int) : (Try.prog.info? 60).map (·.size) = some (dirV d).size := by rw [dirV_size]; kernel_rfl
theorem SRep.rd {m : Nat} {S : Sto} {w : World} {b : Nat} (h : SRep m S w b) : w.rangeAt b 1321 (dirV S.d).toList := by rw [dirV_list]; exact Blk.range h 1321 8 (by decide) _ fun j hj => stF_d m S j hj
theorem zero_tab : (Try.prog.info? 59).map (·.zero) = some (some (.agg (tabV fun _ => ze))) := by kernel_rfl
theorem zero_dir : (Try.prog.info? 60).map (·.zero) = some (some (.agg (dirV fun _ => 0))) := by kernel_rfl
theorem SRep.cis {m : Nat} {S : Sto} {w : World} {b : Nat} (h : SRep m S w b) : w.cell? ⟨b, 1476, none⟩ = some (.bool S.is) := Blk.cell h 1476 (by decide)

theorem keeps_cells (b : Nat) (vs : List Value) : ∀ (w : World) (o : Nat), Keeps (· = b) w (w.setCells b o vs) := by
  induction vs with
  | nil => exact fun w o => Keeps.refl _ _
  | cons v r ih => exact fun w o => (Keeps.setCell (F := (· = b)) (p := ⟨b, o, none⟩) (Keeps.refl _ _) rfl v).trans' (ih _ (o + 1))
theorem tabV_get (f : Nat → En) (j : Nat) (h : j < 147) : (tabV f).toList.getD j undef = .int .i64 (fl3 f j) := by
  rw [tabV_list, List.getD_eq_getElem?_getD, List.getElem?_map, List.getElem?_range h]; rfl
theorem dirV_get (d : Nat → Int) (j : Nat) (h : j < 8) : (dirV d).toList.getD j undef = .int .i64 (d j) := by
  rw [dirV_list, List.getD_eq_getElem?_getD, List.getElem?_map, List.getElem?_range h]; rfl
section
variable {m : Nat} {S : Sto} {w : World} {b : Nat}
theorem SRep.putK (h : SRep m S w b) (f : Nat → En) : SRep m ⟨S.F, S.w, S.b, S.d, f, S.is⟩ (w.setCells b 1329 (tabV f).toList) b := by
  refine (Blk.sets (tabV f).toList w _ 1329 h).ext fun j hj => ?_
  rw [Array.length_toList, tabV_size]
  by_cases c : 1329 ≤ j ∧ j < 1329 + 147
  · obtain ⟨n, rfl⟩ : ∃ n, j = 1329 + n := ⟨j - 1329, by omega⟩
    rw [if_pos c, show 1329 + n - 1329 = n by omega, tabV_get f n (by omega), stF_k _ _ _ (by omega)]
  · rw [if_neg c]
    unfold stF
    by_cases h0 : j = 0
    · rw [if_pos h0, if_pos h0]
    · rw [if_neg h0, if_neg h0]
      by_cases h1 : j < 1027
      · rw [if_pos h1, if_pos h1]
      · rw [if_neg h1, if_neg h1]
        by_cases h2 : j < 1174
        · rw [if_pos h2, if_pos h2]
        · rw [if_neg h2, if_neg h2]
          by_cases h3 : j < 1321
          · rw [if_pos h3, if_pos h3]
          · rw [if_neg h3, if_neg h3]
            by_cases h4 : j < 1329
            · rw [if_pos h4, if_pos h4]
            · rw [if_neg h4, if_neg h4, if_neg (show ¬ j < 1476 by omega), if_neg (show ¬ j < 1476 by omega)]
theorem SRep.putB (h : SRep m S w b) (f : Nat → En) : SRep m ⟨S.F, S.w, f, S.d, S.k, S.is⟩ (w.setCells b 1174 (tabV f).toList) b := by
  refine (Blk.sets (tabV f).toList w _ 1174 h).ext fun j hj => ?_
  rw [Array.length_toList, tabV_size]
  by_cases c : 1174 ≤ j ∧ j < 1174 + 147
  · obtain ⟨n, rfl⟩ : ∃ n, j = 1174 + n := ⟨j - 1174, by omega⟩
    rw [if_pos c, show 1174 + n - 1174 = n by omega, tabV_get f n (by omega), stF_b _ _ _ (by omega)]
  · rw [if_neg c]
    unfold stF
    by_cases h0 : j = 0
    · rw [if_pos h0, if_pos h0]
    · rw [if_neg h0, if_neg h0]
      by_cases h1 : j < 1027
      · rw [if_pos h1, if_pos h1]
      · rw [if_neg h1, if_neg h1]
        by_cases h2 : j < 1174
        · rw [if_pos h2, if_pos h2]
        · rw [if_neg h2, if_neg h2, if_neg (show ¬ j < 1321 by omega), if_neg (show ¬ j < 1321 by omega)]
theorem SRep.putD (h : SRep m S w b) (d : Nat → Int) : SRep m ⟨S.F, S.w, S.b, d, S.k, S.is⟩ (w.setCells b 1321 (dirV d).toList) b := by
  refine (Blk.sets (dirV d).toList w _ 1321 h).ext fun j hj => ?_
  rw [Array.length_toList, dirV_size]
  by_cases c : 1321 ≤ j ∧ j < 1321 + 8
  · obtain ⟨n, rfl⟩ : ∃ n, j = 1321 + n := ⟨j - 1321, by omega⟩
    rw [if_pos c, show 1321 + n - 1321 = n by omega, dirV_get d n (by omega), stF_d _ _ _ (by omega)]
  · rw [if_neg c]
    unfold stF
    by_cases h0 : j = 0
    · rw [if_pos h0, if_pos h0]
    · rw [if_neg h0, if_neg h0]
      by_cases h1 : j < 1027
      · rw [if_pos h1, if_pos h1]
      · rw [if_neg h1, if_neg h1]
        by_cases h2 : j < 1174
        · rw [if_pos h2, if_pos h2]
        · rw [if_neg h2, if_neg h2]
          by_cases h3 : j < 1321
          · rw [if_pos h3, if_pos h3]
          · rw [if_neg h3, if_neg h3, if_neg (show ¬ j < 1329 by omega), if_neg (show ¬ j < 1329 by omega)]
theorem SRep.putIs (h : SRep m S w b) (x : Bool) : SRep m ⟨S.F, S.w, S.b, S.d, S.k, x⟩ (w.setCell ⟨b, 1476, none⟩ (.bool x)) b := by
  refine (Blk.set h 1476 (.bool x)).ext fun j hj => ?_
  by_cases e : j = 1476
  · subst e; rw [upd_same]; rfl
  · rw [upd_other _ _ _ _ e]
    unfold stF
    by_cases h0 : j = 0
    · rw [if_pos h0, if_pos h0]
    · rw [if_neg h0, if_neg h0]
      by_cases h1 : j < 1027
      · rw [if_pos h1, if_pos h1]
      · rw [if_neg h1, if_neg h1]
        by_cases h2 : j < 1174
        · rw [if_pos h2, if_pos h2]
        · rw [if_neg h2, if_neg h2]
          by_cases h3 : j < 1321
          · rw [if_pos h3, if_pos h3]
          · rw [if_neg h3, if_neg h3]
            by_cases h4 : j < 1329
            · rw [if_pos h4, if_pos h4]
            · rw [if_neg h4, if_neg h4, if_pos (show j < 1476 by omega), if_pos (show j < 1476 by omega)]
end

theorem left_objF {m : Nat} {S : Sto} {w : World} {b : Nat} (h : SRep m S w b) (hS : S.F.ok) :
    Calls Try.prog 28 #[.pointer (some ⟨b, 0, none⟩)] w fun e w' => e = .returned (.int .i64 (S.F.left : Int)) ∧ w' = w := by
  have CL := hide (sleft_any h.frs hS)
  clear h hS
  go_enter Try.func28, Try.ntmps28
  go_wp2_with fail
  refine (unhide CL).mono ?_
  rintro e w ⟨rfl, rfl⟩
  go_wp2_with fail
  go_ret
  exact ⟨rfl, rfl⟩

theorem left_obj {m : Nat} {S : Sto} {w : World} {b : Nat} (h : SRep m S w b) (hS : S.ok) :
    Calls Try.prog 28 #[.pointer (some ⟨b, 0, none⟩)] w fun e w' => e = .returned (.int .i64 (S.F.left : Int)) ∧ w' = w := left_objF h hS.1
theorem take_obj {W w : World} {m b : Nat} {St : Mm → World → (Nat → Prop) → Prop} {S : Sto} {A : Mm} {G : Nat → Prop} (M : MemL W m St) (h : SHas W m b St S A w G) (hS : S.ok) :
    Calls Try.prog 24 #[.pointer (some ⟨b, 0, none⟩)] w (Done (SHas W m b St S.took A) w G (.tuple #[.int .i64 S.F.allocV, .int .i64 S.F.allocE])) := by
  have CA := hide (salloc_any h.rep.frs hS.1)
  have HH := hide h
  clear h hS
  generalize S.F.allocV = V at *
  generalize S.F.allocE = E at *
  go_enter Try.func24, Try.ntmps24
  go_wp2_with fail
  refine (unhide CA).mono ?_
  intro e w1 hw
  obtain ⟨rfl, h1, h2⟩ := (unhide HH).went M hw
  have H1 := hide h1
  have H2 := hide h2
  clear hw h1 h2 HH CA
  go_wp2_with fail
  go_ret2
  exact ⟨rfl, unhide H1, unhide H2⟩

theorem mark_obj {W w : World} {m b : Nat} {St : Mm → World → (Nat → Prop) → Prop} {S : Sto} {A : Mm} {G : Nat → Prop} (M : MemL W m St) (h : SHas W m b St S A w G) :
    Calls Try.prog 20 #[.pointer (some ⟨b, 0, none⟩)] w (Done (SHas W m b St S.markS A) w G (.int .i64 S.markE)) := by
  have ci := h.rep.cis
  cases hi : S.is with
  | true =>
    have e1 : S.markS = S := by unfold Sto.markS; rw [hi]; rfl
    have e2 : S.markE = 3 := by unfold Sto.markE; rw [hi]; rfl
    rw [e1, e2]
    rw [hi] at ci
    have HH := hide h
    clear h hi e1 e2
    go_enter Try.func20, Try.ntmps20
    go_wp2_with fail
    go_ret
    exact ⟨rfl, unhide HH, fun _ _ => rfl⟩
  | false =>
    have e1 : S.markS = ⟨S.F, S.w, S.b, S.d, S.w, true⟩ := by unfold Sto.markS; rw [hi]; rfl
    have e2 : S.markE = 0 := by unfold Sto.markE; rw [hi]; rfl
    rw [e1, e2]
    rw [hi] at ci
    have HH := hide h
    have RW := hide h.rep.rw
    have R1 : SRep m ⟨S.F, S.w, S.b, S.d, S.w, S.is⟩ (w.setCells b 1329 (tabV S.w).toList) b := h.rep.putK S.w
    have R2 := hide (R1.putIs true)
    have TH := hide (Blk.there h.rep 1329 147 (by decide))
    have cs : (w.setCells b 1329 (tabV S.w).toList).cell? ⟨b, 1476, none⟩ = some (.bool S.is) := R1.cis
    have fs : (w.setCells b 1329 (tabV S.w).toList).frozen? ⟨b, 1476, none⟩ = false := Blk.free R1 _
    have KP := hide (((keeps_cells b (tabV S.w).toList w 1329)).trans' (Keeps.setCell (F := (· = b)) (p := ⟨b, 1476, none⟩) (Keeps.refl _ _) rfl (.bool true)))
    have s147 := s147_tab S.w
    have hsz : (tabV S.w).size = 147 := tabV_size _
    clear h hi e1 e2 R1
    rw [← hsz] at TH
    clear hsz
    go_enter Try.func20, Try.ntmps20
    go_wp2_with (first | (with_reducible refine wpList_load_tab (by with_unfolding_all rfl) _ (by with_unfolding_all rfl) b 1027 (by with_unfolding_all rfl) S.w (unhide RW) ?_) | (with_reducible refine wpList_store_mid (by with_unfolding_all rfl) 59 _ _ (by with_unfolding_all rfl) b 1329 (tabV S.w) (by with_unfolding_all rfl) (by with_unfolding_all rfl) (unhide TH) s147 (tabV_one _) ?_))
    go_ret
    have := (unhide HH).turned M (unhide R2) (unhide KP)
    exact ⟨rfl, this.1, this.2⟩

end Go.Proofs.Ytjmgmbigbkllgaa
