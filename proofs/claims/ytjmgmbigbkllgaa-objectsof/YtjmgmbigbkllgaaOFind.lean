
/-
  find: an entry that is there; nothing turns.
-/
import Derived.Test.YtjmgmbigbkllgaaOTab
namespace Go.Proofs.Ytjmgmbigbkllgaa
open Go.ChangeShapes Go.WideShapes Go.ChangeAt Go.RowKit Go.Joins
set_option maxRecDepth 10000
set_option linter.unusedVariables false
set_option linter.unusedSimpArgs false

def foundV (S : Sto) (z : Int) : Value := .tuple #[.agg (ev (S.at z)), .int .i64 (S.findE z)]
theorem find_any {m : Nat} {S : Sto} {w : World} {b : Nat} (h : SRep m S w b) (z : Int) :
    Calls Try.prog 42 #[.pointer (some ⟨b, 0, none⟩), .int .i64 z] w fun e w' => e = .returned (foundV S z) ∧ Below w.heap.size w w' := by
  have KB := hide (fun c : Array Value => (Below.refl w.heap.size w).alloc (Nat.le_refl _) (.cells c 23))
  have nz := ev_new ze 23
  have hlt := Blk.lt h
  by_cases hz : 0 ≤ z ∧ z < 49
  · obtain ⟨i, rfl⟩ : ∃ i : Nat, z = (i : Int) := ⟨z.toNat, by omega⟩
    have hi : i < 49 := by omega
    have ck := h.ck i hi
    have HE := hide (h.en i hi)
    have RE : Hid (∀ o : Obj, (w.alloc o).rangeAt b (1027 + i * 3) (ev (S.w i)).toList) := fun o => World.rangeAt_alloc (unhide HE) o
    have hi1 : (0 : Int) ≤ (i : Int) := by omega
    have hi2 : (i : Int) < 49 := by omega
    by_cases hk : (S.w i).k = 0
    · have HV : Hid (foundV S (i : Int) = .tuple #[.agg (ev ze), .int .i64 30]) := by
        have e : S.findE (i : Int) = 30 := by unfold Sto.findE; rw [if_pos ⟨by omega, by omega⟩]; exact if_pos hk
        show foundV S (i : Int) = _
        unfold foundV Sto.at; rw [e]; rfl
      rw [hk] at ck
      clear hk h hz HE RE
      go_enter Try.func42, Try.ntmps42
      go_wp2_with (refine wpList_build0 rfl 23 rfl _ build3 ?_)
      exact bodyPost_ret (v := .tuple #[.agg (ev ze), .int .i64 30]) (results_two Try.results42 _ _ w.heap.size 23 (ev ze) (0, 0) _ _ rfl rfl (heap_new w _) Try.underlying23 rfl (s3_ev ze)) rfl ⟨by rw [unhide HV], unhide KB _⟩
    · have HV : Hid (foundV S (i : Int) = .tuple #[.agg (ev (S.w i)), .int .i64 0]) := by
        have e : S.findE (i : Int) = 0 := by unfold Sto.findE; rw [if_pos ⟨by omega, by omega⟩]; exact if_neg hk
        show foundV S (i : Int) = _
        unfold foundV Sto.at; rw [e]; rfl
      obtain ⟨k, ek⟩ : ∃ k, k = (S.w i).k := ⟨_, rfl⟩
      rw [← ek] at ck
      have hk1 : (k == 0) = false := by rw [ek]; simpa using hk
      have n1 := ev_new (S.w i) 23
      obtain ⟨E, hE⟩ : ∃ E, E = ev (S.w i) := ⟨_, rfl⟩
      have z3 : E.size = 3 := by rw [hE]; rfl
      have s3 : (Try.prog.info? 23).map (·.size) = some E.size := by rw [hE]; exact size3
      rw [← hE] at n1
      have HE2 := hide hE
      clear hk h hz ek hE HE
      go_enter Try.func42, Try.ntmps42
      go_wp2_with (with_reducible refine wpList_load_en (by with_unfolding_all rfl) _ (by with_unfolding_all rfl) b (1027 + i * 3) (by with_unfolding_all rfl) (S.w i) (unhide RE _) ?_; rw [← unhide HE2])
      exact bodyPost_ret (v := .tuple #[.agg E, .int .i64 0]) (results_two Try.results42 _ _ w.heap.size 23 E (0, 0) _ _ rfl rfl (heap_new w _) Try.underlying23 rfl s3) rfl ⟨by rw [unhide HV, unhide HE2], unhide KB _⟩
  · have HV : Hid (foundV S z = .tuple #[.agg (ev ze), .int .i64 1]) := by
      have e : S.findE z = 1 := if_neg hz
      show foundV S z = _
      unfold foundV Sto.at; rw [e]; rfl
    by_cases h1 : z < 0
    · clear h hz
      go_enter Try.func42, Try.ntmps42
      go_wp2_with (refine wpList_build0 rfl 23 rfl _ build3 ?_)
      exact bodyPost_ret (v := .tuple #[.agg (ev ze), .int .i64 1]) (results_two Try.results42 _ _ w.heap.size 23 (ev ze) (0, 0) _ _ rfl rfl (heap_new w _) Try.underlying23 rfl (s3_ev ze)) rfl ⟨by rw [unhide HV], unhide KB _⟩
    · have h2 : 49 ≤ z := by omega
      clear h hz
      go_enter Try.func42, Try.ntmps42
      go_wp2_with (refine wpList_build0 rfl 23 rfl _ build3 ?_)
      exact bodyPost_ret (v := .tuple #[.agg (ev ze), .int .i64 1]) (results_two Try.results42 _ _ w.heap.size 23 (ev ze) (0, 0) _ _ rfl rfl (heap_new w _) Try.underlying23 rfl (s3_ev ze)) rfl ⟨by rw [unhide HV], unhide KB _⟩

end Go.Proofs.Ytjmgmbigbkllgaa
