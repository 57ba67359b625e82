
/-
  A store just made: its cells, out of its parts.
-/
import Derived.Test.YtjmgmbigbkllgaaOTells
namespace Go.Proofs.Ytjmgmbigbkllgaa
open Go.ChangeShapes Go.WideShapes Go.ChangeAt Go.RowKit Go.Joins
set_option maxRecDepth 100000
set_option linter.unusedVariables false
set_option linter.unusedSimpArgs false

/-! ### an aggregate filled part by part, over any program -/
def putV (f : Nat → Value) (off : Nat) (vs : List Value) : Nat → Value := fun i => if off ≤ i ∧ i < off + vs.length then vs.getD (i - off) undef else f i
theorem fold_putL (N : Nat) (off : Nat) (vs : List Value) : ∀ (f : Nat → Value) (k : Nat), List.foldl (fun (cs : Array Value) (x : Value × Nat) => cs.setIfInBounds (off + x.2) x.1) (tab N f) (vs.zipIdx k) = tab N (putV f (off + k) vs) := by
  induction vs with
  | nil =>
    intro f k
    refine tab_ext fun i _ => ?_
    unfold putV; rw [if_neg (by simp only [List.length_nil]; omega)]
  | cons v r ih =>
    intro f k
    rw [List.zipIdx_cons, List.foldl_cons, tab_set, ih]
    refine tab_ext fun i _ => ?_
    unfold putV
    simp only [List.length_cons]
    by_cases h1 : i = off + k
    · subst h1
      rw [if_neg (by omega), if_pos (by omega), upd_same, Nat.sub_self]; rfl
    · rw [upd_other _ _ _ _ h1]
      by_cases h2 : off + (k + 1) ≤ i ∧ i < off + (k + 1) + r.length
      · rw [if_pos h2, if_pos (by omega), show i - (off + k) = (i - (off + (k + 1))) + 1 by omega]; rfl
      · rw [if_neg h2, if_neg (by omega)]
theorem fold_put (N : Nat) (f : Nat → Value) (off : Nat) (vs : Array Value) : Array.foldl (fun (cs : Array Value) (x : Value × Nat) => match x with | (c, j) => cs.setIfInBounds (off + j) c) (tab N f) vs.zipIdx = tab N (putV f off vs.toList) := by
  rw [← Array.foldl_toList, Array.toList_zipIdx]
  exact fold_putL N off vs.toList f 0
theorem fill_step (place : Nat → Option (Nat × Nat)) (N : Nat) (f : Nat → Value) (i : Nat) (v : Value) (rest : List (Nat × Value)) (off size : Nat) (hp : place i = some (off, size)) (hs : v.cells.size = size) (hN : off + size ≤ N) :
    Instr.fill place (tab N f) ((i, v) :: rest) = Instr.fill place (tab N (putV f off v.cells.toList)) rest := by
  rw [Instr.fill, hp]
  show (if (decide (v.cells.size ≠ size) || decide (off + v.cells.size > (tab N f).size)) = true then none else _) = _
  rw [if_neg (by rw [tab_size, hs]; simp; omega), fold_put]

def zstF (i : Nat) : Value := if i = 0 then .pointer none else if i < 1476 then .int .i64 0 else .bool false
theorem zero_st : (Try.prog.info? 93).map (·.zero) = some (some (.agg (tab 1477 zstF))) := by kernel_rfl
def placesS : List (Nat × Nat) := [(0, 1), (1, 1026), (1027, 147), (1174, 147), (1321, 8), (1329, 147), (1476, 1)]
theorem places_st : ∃ fs, Try.prog.underlying 93 = some (.struct fs) ∧ fs.toList.mapM (fun f => (Try.prog.info? f.type).map fun i => (f.offset, i.size)) = some placesS := ⟨_, Try.underlying93, by kernel_rfl⟩
theorem frV_get (F : Fr) (j : Nat) (h : j < 1026) : (frV F).toList.getD j undef = frF F j := by
  have : (frV F)[j]? = some (frF F j) := tab_get _ _ _ h
  rw [List.getD_eq_getElem?_getD, Array.getElem?_toList, this]; rfl
theorem built_store (m : Nat) (F : Fr) (t : Nat → En) (d : Nat → Int) :
    Try.prog.built 93 [(0, .pointer (some ⟨m, 0, none⟩)), (1, .agg (frV F)), (2, .agg (tabV t)), (3, .agg (tabV t)), (4, .agg (dirV d))] = some (tab 1477 (stF m ⟨F, t, t, d, fun _ => ze, false⟩)) := by
  obtain ⟨fs, hu, hp⟩ := places_st
  have hz := zero_st
  unfold Program.built
  cases hi : Try.prog.info? 93 with
  | none => rw [hi] at hz; cases hz
  | some it =>
    rw [hi] at hz
    have hz' : it.zero = some (.agg (tab 1477 zstF)) := by simpa using hz
    rw [hu]
    simp only [hz', hp]
    show Instr.fill (fun x => placesS.toArray[x]?) (tab 1477 zstF) _ = _
    rw [fill_step (fun x => placesS.toArray[x]?) 1477 _ 0 (.pointer (some ⟨m, 0, none⟩)) _ 0 1 rfl rfl (by decide), fill_step (fun x => placesS.toArray[x]?) 1477 _ 1 (.agg (frV F)) _ 1 1026 rfl (frV_size F) (by decide), fill_step (fun x => placesS.toArray[x]?) 1477 _ 2 (.agg (tabV t)) _ 1027 147 rfl (tabV_size t) (by decide),
      fill_step (fun x => placesS.toArray[x]?) 1477 _ 3 (.agg (tabV t)) _ 1174 147 rfl (tabV_size t) (by decide), fill_step (fun x => placesS.toArray[x]?) 1477 _ 4 (.agg (dirV d)) _ 1321 8 rfl (dirV_size d) (by decide), Instr.fill]
    refine congrArg some (tab_ext fun i hi => ?_)
    show putV (putV (putV (putV (putV zstF 0 [.pointer (some ⟨m, 0, none⟩)]) 1 (frV F).toList) 1027 (tabV t).toList) 1174 (tabV t).toList) 1321 (dirV d).toList i = _
    unfold putV stF
    rw [Array.length_toList, Array.length_toList, Array.length_toList, frV_size, tabV_size, dirV_size]
    simp only [List.length_cons, List.length_nil]
    by_cases h0 : i = 0
    · subst h0; rfl
    · rw [if_neg h0]
      by_cases h1 : i < 1027
      · rw [if_pos h1, if_neg (by omega), if_neg (by omega), if_neg (by omega), if_pos (by omega), frV_get _ _ (by omega)]
      · rw [if_neg h1]
        by_cases h2 : i < 1174
        · rw [if_pos h2, if_neg (by omega), if_neg (by omega), if_pos (by omega), tabV_get _ _ (by omega)]
        · rw [if_neg h2]
          by_cases h3 : i < 1321
          · rw [if_pos h3, if_neg (by omega), if_pos (by omega), tabV_get _ _ (by omega)]
          · rw [if_neg h3]
            by_cases h4 : i < 1329
            · rw [if_pos h4, if_pos (by omega), dirV_get _ _ (by omega)]
            · rw [if_neg h4, if_neg (by omega), if_neg (by omega), if_neg (by omega), if_neg (by omega), if_neg (by omega)]
              unfold zstF
              rw [if_neg h0]
              by_cases h5 : i < 1476
              · rw [if_pos h5, if_pos h5]
                unfold fl3 ze
                simp
              · rw [if_neg h5, if_neg h5]
theorem sto_one (m : Nat) (S : Sto) : (tab 1477 (stF m S)).all (·.oneCell') = true := by
  refine Array.all_eq_true_iff_forall_mem.2 fun v hv => ?_
  obtain ⟨i, hi, rfl⟩ := Array.mem_iff_getElem.1 hv
  rw [tab_size] at hi
  have : (tab 1477 (stF m S))[i]? = some (stF m S i) := tab_get 1477 _ i hi
  rw [Array.getElem?_eq_getElem (by rw [tab_size]; exact hi)] at this
  have e := Option.some.inj this
  rw [e]
  unfold stF
  repeat' split
  all_goals first | rfl | exact frF_one _ _
theorem s1477 (m : Nat) (S : Sto) : (Try.prog.info? 93).map (·.size) = some (tab 1477 (stF m S)).size := by rw [tab_size]; kernel_rfl

end Go.Proofs.Ytjmgmbigbkllgaa
