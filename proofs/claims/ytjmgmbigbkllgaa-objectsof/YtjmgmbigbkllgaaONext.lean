
/-
  Next: the next number that is free; nothing turns.
-/
import Derived.Test.YtjmgmbigbkllgaaOTab
namespace Go.Proofs.Ytjmgmbigbkllgaa
open Go.ChangeShapes Go.WideShapes Go.ChangeAt Go.RowKit Go.Joins
set_option maxRecDepth 10000
set_option linter.unusedVariables false
set_option linter.unusedSimpArgs false

theorem below_drewN {B : Nat} {a w : World} (h : Below B a w) (n : Nat) : Below B a (w.drewN n) := ⟨h.os, h.tape, h.output, h.size, h.block⟩
def nextT (S : Sto) (z : Int) : Value := .tuple #[.int .i64 (S.nextI z), .int .i64 (S.nextV z), .int .i64 (S.nextE z)]
set_option maxHeartbeats 4000000 in
theorem next_any {m : Nat} {S : Sto} {w : World} {b : Nat} (h : SRep m S w b) (z : Int) :
    Calls Try.prog 31 #[.pointer (some ⟨b, 0, none⟩), .int .i64 z] w fun e w' => e = .returned (nextT S z) ∧ Below w.heap.size w w' := by
  have CM := hide (mayMake_any z)
  have RW := hide h.rw
  have HX : Hid (∀ (W : World) (j : Nat), j < 49 → Sem.run Try.prog (Instr.index 59 (.agg (tabV S.w)) (.int .i64 (j : Int))) W = .ok (.agg (ev (S.w j))) W) := fun W j hj => by
    rw [← rowE_at 49 S.w j hj]; exact run_index_en _ 49 Try.underlying59 W _ (rowE_len _ _) .i64 j hj
  clear h
  cases hm : mkB z with
  | false =>
    have HV : Hid (nextT S z = .tuple #[.int .i64 0, .int .i64 0, .int .i64 1]) := by
      show nextT S z = _
      unfold nextT Sto.nextI Sto.nextV Sto.nextE; rw [hm]; rfl
    rw [hm] at CM
    clear HX RW hm
    go_enter Try.func31, Try.ntmps31
    go_wp2_with fail
    refine (unhide CM _).mono ?_
    rintro e w ⟨rfl, rfl⟩
    go_wp2_with fail
    go_ret3
    exact ⟨by rw [unhide HV]; rfl, Below.refl _ _⟩
  | true =>
    have HM := hide hm
    rw [hm] at CM
    clear hm
    go_enter Try.func31, Try.ntmps31
    go_wp2_with fail
    refine (unhide CM _).mono ?_
    rintro e w ⟨rfl, rfl⟩
    go_wp2_with (with_reducible refine wpList_load_tab (by with_unfolding_all rfl) _ (by with_unfolding_all rfl) b 1027 (by with_unfolding_all rfl) S.w (unhide RW) ?_)
    clear RW CM
    go_loopw [7, 8, 16] (fun u v c wr => ∃ j : Nat, j ≤ 49 ∧ c = .int .i64 j ∧ Below w.heap.size w wr ∧ ∀ i, i < j → opB (S.w i) = false) (fun _ _ c _ => 49 - (intOf c).toNat)
    case atStart => exact ⟨0, by omega, rfl, Below.refl _ _, fun i hi => by omega⟩
    case round =>
      obtain ⟨j, hj, rfl, hb, hno⟩ := hrel
      have HB := hide hb
      have HN := hide hno
      have hsz := hb.size
      clear hb hno
      by_cases hlt : j < 49
      · have hix := fun W => unhide HX W j hlt
        obtain ⟨k, v, l, hx⟩ : ∃ k v l, S.w j = ⟨k, v, l⟩ := ⟨_, _, _, rfl⟩
        rw [hx] at hix
        have hi2 : ∀ W : World, Sem.run Try.prog (Instr.index 59 (.agg (tabV S.w)) (.int .i64 (j : Int))) W = .ok (.agg #[.int .i64 k, .int .i64 v, .int .i64 l]) W := hix
        have CO := hide (open3 k v l)
        have HX2 := hide hx
        have HBA := hide (fun o : Obj => (unhide HB).alloc hsz o)
        have CN : Hid (∀ o : Obj, ∀ w2 : World, Below (wr.alloc o).heap.size (wr.alloc o) w2 → w2.heap[wr.heap.size]? = some o) := fun o w2 h2 => by
          rw [h2.block _ (by simp)]; exact heap_new wr o
        clear hix hx HX
        cases ho : opB ⟨k, v, l⟩ with
        | true =>
          have HV : Hid (nextT S z = .tuple #[.int .i64 (j : Int), .int .i64 v, .int .i64 0]) := by
            have e := nx_some hlt (show opB (S.w j) = true by rw [unhide HX2]; exact ho) (unhide HN)
            show nextT S z = _
            unfold nextT Sto.nextI Sto.nextV Sto.nextE
            rw [unhide HM, e]
            show Value.tuple #[.int .i64 (j : Int), .int .i64 (S.w j).v, .int .i64 0] = _
            rw [unhide HX2]
          rw [ho] at CO
          clear ho
          go_wp2_with fail
          refine (unhide CO _).mono ?_
          rintro e w2 ⟨rfl, hb2⟩
          have H2 := hide ((unhide HBA _).trans (hb2.mono (by have := hb2.size; simp at this ⊢; omega)))
          have kb := unhide CN _ _ hb2
          have c1 : w2.cell? ⟨wr.heap.size, 1, none⟩ = some (.int .i64 v) := by rw [cell_of_block kb]; rfl
          clear hb2 kb CN CO HBA HB
          go_upto_region 7 with fail
          go_quiet (fail)
          go_wp2_with fail
          go_ret3
          exact ⟨by rw [unhide HV]; rfl, below_drewN (unhide H2) _⟩
        | false =>
          rw [ho] at CO
          have HN2 : Hid (∀ i, i < j + 1 → opB (S.w i) = false) := fun i hi => by
            by_cases e : i = j
            · rw [e, unhide HX2]; exact ho
            · exact unhide HN i (by omega)
          clear ho
          go_wp2_with fail
          refine (unhide CO _).mono ?_
          rintro e w2 ⟨rfl, hb2⟩
          have H2 := hide ((unhide HBA _).trans (hb2.mono (by have := hb2.size; simp at this ⊢; omega)))
          clear hb2 CN CO HBA HB
          go_wp2_with fail
          go_roundw
          case rel => exact ⟨j + 1, by omega, by go_num, unhide H2, unhide HN2⟩
          case measure => simp [intOf]; omega
      · obtain rfl : j = 49 := by omega
        have HV : Hid (nextT S z = .tuple #[.int .i64 0, .int .i64 0, .int .i64 34]) := by
          show nextT S z = _
          unfold nextT Sto.nextI Sto.nextV Sto.nextE
          rw [unhide HM, nx_none (unhide HN)]; rfl
        go_wp2_with fail
        go_ret3
        exact ⟨by rw [unhide HV]; rfl, unhide HB⟩

end Go.Proofs.Ytjmgmbigbkllgaa
