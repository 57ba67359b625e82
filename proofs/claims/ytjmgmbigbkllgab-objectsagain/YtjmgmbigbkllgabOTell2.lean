
/-
  Table, Base, Marked: what they tell.
-/
import Derived.Test.YtjmgmbigbkllgabOTells
namespace Go.Proofs.Ytjmgmbigbkllgab
open Go.ChangeShapes Go.WideShapes Go.ChangeAt Go.RowKit Go.Joins
set_option maxRecDepth 10000
set_option linter.unusedVariables false
set_option linter.unusedSimpArgs false

theorem results_cells2 {fn : Func} {p q : Tmp} {P : Program} {ty ty' : TypeId} (h : fn.results = #[.cell p ty, .cell q ty']) (tmps : Array Value) (w : World) (g g' : Nat) (t t' : TypeId) (cs cs' : Array Value) (fr fr' : Nat × Nat) (d d' : TypeDesc)
    (hp : tmps.getD p undef = .pointer (some ⟨g, 0, none⟩)) (hq : tmps.getD q undef = .pointer (some ⟨g', 0, none⟩)) (hg : w.heap[g]? = some (.cells cs t fr)) (hg' : w.heap[g']? = some (.cells cs' t' fr'))
    (hu : P.underlying ty = some d) (hd : (match d with | .struct _ | .array _ _ => true | _ => false) = true) (hi : (P.info? ty).map (·.size) = some cs.size)
    (hu' : P.underlying ty' = some d') (hd' : (match d' with | .struct _ | .array _ _ => true | _ => false) = true) (hi' : (P.info? ty').map (·.size) = some cs'.size) :
    (results fn tmps).run P w = .ok (.tuple #[.agg cs, .agg cs']) w := by
  have e : (results fn tmps).run P w = ((asAddr (tmps.getD p undef)).run P w).andThen fun a w₁ => ((loadVar ty a).run P w₁).andThen fun y w₂ => ((asAddr (tmps.getD q undef)).run P w₂).andThen fun a' w₃ => ((loadVar ty' a').run P w₃).andThen fun y' w₄ => .ok (.tuple #[y, y']) w₄ := by
    simp only [results, h]
    simp [Sem.run_bind, Result.andThen]
  rw [e, hp, hq]
  simp [asAddr, run_loadVar_row w g t ty cs fr d hg hu hd hi, run_loadVar_row w g' t' ty' cs' fr' d' hg' hu' hd' hi']

theorem table_obj {m : Nat} {S : Sto} {w : World} {b : Nat} (h : SRep m S w b) :
    Calls Try.prog 16 #[.pointer (some ⟨b, 0, none⟩)] w fun e w' => e = .returned (.agg (tabV S.w)) ∧ Below w.heap.size w w' := by
  have RW : Hid (∀ o : Obj, (w.alloc o).rangeAt b 1027 (tabV S.w).toList) := fun o => World.rangeAt_alloc h.rw o
  have s147 := s147_tab S.w
  have hsz : (tabV fun _ => ze).size = (tabV S.w).size := by rw [tabV_size, tabV_size]
  have KB := hide (fun c : Array Value => (Below.refl w.heap.size w).alloc (Nat.le_refl _) (.cells c 55))
  have HSZ := hide hsz
  clear h hsz
  go_enter Try.func16, Try.ntmps16
  go_wp2_with (first | (with_reducible refine wpList_allocZ (by with_unfolding_all rfl) 55 (by with_unfolding_all rfl) (tabV fun _ => ze) zero_tab ?_) | (with_reducible refine wpList_load_tab (by with_unfolding_all rfl) _ (by with_unfolding_all rfl) b 1027 (by with_unfolding_all rfl) S.w (unhide RW _) ?_) | (with_reducible refine wpList_store_row (by with_unfolding_all rfl) 55 _ _ (by with_unfolding_all rfl) w.heap.size (tabV S.w) (by with_unfolding_all rfl) (by with_unfolding_all rfl) 55 (tabV fun _ => ze) (heap_new w _) s147 (unhide HSZ) (tabV_one _) ?_; rw [setRow_alloc]))
  exact bodyPost_ret (v := .agg (tabV S.w)) (results_cell_row Try.results16 _ _ w.heap.size 55 (tabV S.w) (0, 0) _ rfl (heap_new w _) Try.underlying55 rfl s147) rfl ⟨rfl, unhide KB _⟩

end Go.Proofs.Ytjmgmbigbkllgab
