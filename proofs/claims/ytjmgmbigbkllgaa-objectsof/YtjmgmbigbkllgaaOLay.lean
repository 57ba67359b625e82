
/-
  lay: a frame is taken, eight words are stored there, one behind the other, till the memory tells an error.
-/
import Derived.Test.YtjmgmbigbkllgaaOHas
namespace Go.Proofs.Ytjmgmbigbkllgaa
open Go.ChangeShapes Go.WideShapes Go.ChangeAt Go.RowKit Go.Joins
set_option maxRecDepth 10000
set_option linter.unusedVariables false
set_option linter.unusedSimpArgs false

theorem run_index_lineO (W : World) (cs : Array Value) (k : IntKind) (i : Nat) (h8 : i < 8) (v : Value) (h : cs[i]? = some v) :
    Sem.run Try.prog (Instr.index 56 (.agg cs) (.int k (i : Int))) W = .ok v W := by
  have h8' : (0 : Int) ≤ (i : Int) ∧ (i : Int) < 8 := by omega
  simp [Instr.index, run_underlying Try.underlying56, asIntOf, h8, go_sem, part, h]
theorem lnV_get (f : Nat → Int) (i : Nat) (h : i < 8) : (lnV f)[i]? = some (.int .u64 (f i)) := tab_get _ _ _ h
theorem s8_ln (f : Nat → Int) : (Try.prog.info? 56).map (·.size) = some (lnV f).size := by rw [lnV_size]; kernel_rfl

set_option maxHeartbeats 2000000 in
theorem lay_any {W w : World} {m b : Nat} {St : Mm → World → (Nat → Prop) → Prop} {S : Sto} {A : Mm} {G : Nat → Prop} (M : MemL W m St) (h : SHas W m b St S A w G) (hS : S.ok) (hA : A.ok 900) (l : Nat → Int) (hl : ∀ j, InU (l j)) :
    Calls Try.prog 46 #[.pointer (some ⟨b, 0, none⟩), .agg (lnV l)] w (Done (SHas W m b St S.took (S.layM A l)) w G (.tuple #[.int .i64 (S.layV A l), .int .i64 (S.layE A l)])) := by
  have T0 := hide (SHas.stay M b S A)
  have O0 := hide ((Held.start (unhide T0) h).alloc (unhide T0) (.cells (lnV l) 56))
  have CA := hide (fun (w' : World) (h' : SFr m S w' b S.F) => salloc_any h' hS.1)
  by_cases he : S.F.allocE = 0
  · have EM : Hid (S.layM A l = (layP A S.F.allocV l 8).1) := by show _ = _; unfold Sto.layM; rw [if_pos he]
    have EE : Hid (S.layE A l = (layP A S.F.allocV l 8).2) := by show _ = _; unfold Sto.layE; rw [if_pos he]
    have EV : Hid (S.layE A l = 0 → S.layV A l = S.F.allocV) := fun q => by unfold Sto.layV; rw [if_pos q]
    have EN : Hid (S.layE A l ≠ 0 → S.layV A l = 0) := fun q => by unfold Sto.layV; rw [if_neg q]
    have HS : Hid (∀ j, (layP A S.F.allocV l j).2 = 0 → (layP A S.F.allocV l (j + 1)).1 = (layP A S.F.allocV l j).1.storeZ S.F.allocV j (l j) ∧ (layP A S.F.allocV l (j + 1)).2 = (layP A S.F.allocV l j).1.storeE S.F.allocV j) := fun j q => by
      rw [layP_next q]; exact ⟨rfl, rfl⟩
    have H8 : Hid (∀ j, j ≤ 8 → (layP A S.F.allocV l j).2 ≠ 0 → layP A S.F.allocV l 8 = layP A S.F.allocV l j) := fun j hj q => by
      have := layP_stuck q (8 - j)
      rwa [show j + (8 - j) = 8 by omega] at this
    have HO : Hid (∀ j, j ≤ 8 → (layP A S.F.allocV l j).1.ok 1000) := fun j hj => ok_mono (layP_ok hA _ l hl j) (by omega)
    have H0 : Hid ((layP A S.F.allocV l 0) = (A, 0)) := rfl
    have hev : S.F.allocV = S.F.allocV := rfl
    rw [he] at CA
    obtain ⟨PM, hPM⟩ : ∃ PM, PM = layP A S.F.allocV l := ⟨_, rfl⟩
    rw [← hPM] at EM EE HS H8 HO H0
    generalize hv : S.F.allocV = V at *
    have HX : Hid (∀ j, j < 8 → (lnV l)[j]? = some (.int .u64 (l j))) := fun j hj => lnV_get l j hj
    have s8 := s8_ln l
    clear hPM hv hev he h hl hA
    generalize lnV l = LV at *
    go_enter Try.func46, Try.ntmps46
    go_wp2_with fail
    refine (unhide CA _ (unhide O0).st.rep).mono ?_
    intro e w1 hw
    obtain ⟨rfl, h1, h2⟩ := (unhide O0).st.went M hw
    have O1 : Hid (Held W (SHas W m b St S.took A) w w1 G [(w.heap.size, .cells LV 56)]) := (unhide O0).call (St' := SHas W m b St S.took A) h1 h2
    clear hw h1 h2 O0 CA T0
    have KL := hide ((unhide O1).at w.heap.size (.cells LV 56) (by simp))
    go_wp2_with (with_reducible refine wpList_load_row (by with_unfolding_all rfl) 56 _ (by with_unfolding_all rfl) w.heap.size (by with_unfolding_all rfl) _ _ _ _ (unhide KL) Try.underlying56 (by with_unfolding_all rfl) s8 ?_)
    go_loopw [8, 9, 10, 22] (fun u8 u9 u10 c wr => ∃ j : Nat, j ≤ 8 ∧ c = .int .i64 j ∧ (PM j).2 = 0 ∧ Held W (SHas W m b St S.took (PM j).1) w wr G [(w.heap.size, .cells LV 56)]) (fun _ _ _ c _ => 8 - (intOf c).toNat)
    case atStart => exact ⟨0, by omega, rfl, by rw [unhide H0], by rw [unhide H0]; exact unhide O1⟩
    case round =>
      clear O1 KL
      obtain ⟨j, hj, rfl, hz, hh⟩ := hrel
      have HH := hide hh
      have HZ := hide hz
      clear hh hz
      by_cases hlt : j < 8
      · have hlt' : (j : Int) < 8 := by omega
        have hix := fun W => run_index_lineO W LV .i64 j hlt _ (unhide HX j hlt)
        have c0 := (unhide HH).st.pm
        have CS := hide ((unhide HH).st.store M (unhide HO j (by omega)) V j (l j))
        rw [← (unhide HS j (unhide HZ)).1, ← (unhide HS j (unhide HZ)).2] at CS
        go_wp2_with fail
        refine (unhide CS).mono ?_
        rintro e w2 ⟨rfl, h1, h2⟩
        have O2 := hide ((unhide HH).call (St' := SHas W m b St S.took (PM (j + 1)).1) h1 h2)
        clear h1 h2 HH CS hix c0
        by_cases hq : (PM (j + 1)).2 = 0
        · have HQ := hide hq
          rw [hq]
          clear hq
          go_wp2_with fail
          go_roundw
          case rel => exact ⟨j + 1, by omega, by go_num, unhide HQ, unhide O2⟩
          case measure => simp [intOf]; omega
        · have e8 := hide (unhide H8 (j + 1) (by omega) hq)
          have EQ : Hid (S.layE A l = (PM (j + 1)).2) := (unhide EE).trans (by rw [unhide e8])
          have HV : Hid (S.layV A l = 0) := unhide EN (by rw [unhide EQ]; exact hq)
          have HM : Hid (S.layM A l = (PM (j + 1)).1) := (unhide EM).trans (by rw [unhide e8])
          have hqb : ((PM (j + 1)).2 == 0) = false := by simpa using hq
          have hqb2 : ((PM (j + 1)).2 != 0) = true := by simpa using hq
          clear hq
          generalize (PM (j + 1)).2 = E at *
          go_wp2_with fail
          go_ret2
          rw [unhide EQ, unhide HV, unhide HM]
          exact (unhide O2).done (SHas.stay M b _ _) _
      · obtain rfl : j = 8 := by omega
        have HE : Hid (S.layE A l = 0) := (unhide EE).trans (unhide HZ)
        go_wp2_with fail
        go_ret2
        rw [unhide HE, unhide EV (unhide HE), unhide EM]
        exact (unhide HH).done (SHas.stay M b _ _) _
  · have EM : Hid (S.layM A l = A) := by show _ = _; unfold Sto.layM; rw [if_neg he]
    have EE : Hid (S.layE A l = S.F.allocE) := by show _ = _; unfold Sto.layE; rw [if_neg he]
    have EV : Hid (S.layV A l = 0) := by show _ = _; unfold Sto.layV; rw [if_neg (by rw [unhide EE]; exact he)]
    rw [unhide EM, unhide EE, unhide EV]
    have heb : (S.F.allocE != 0) = true := by simpa using he
    have heb2 : (S.F.allocE == 0) = false := by simpa using he
    clear he h hl hA EM EE EV
    generalize S.F.allocE = E at *
    generalize S.F.allocV = V at *
    generalize lnV l = LV at *
    go_enter Try.func46, Try.ntmps46
    go_wp2_with fail
    refine (unhide CA _ (unhide O0).st.rep).mono ?_
    intro e w1 hw
    obtain ⟨rfl, h1, h2⟩ := (unhide O0).st.went M hw
    have O1 : Hid (Held W (SHas W m b St S.took A) w w1 G [(w.heap.size, .cells LV 56)]) := (unhide O0).call (St' := SHas W m b St S.took A) h1 h2
    clear hw h1 h2 O0 CA T0
    go_wp2_with fail
    go_ret2
    exact (unhide O1).done (SHas.stay M b _ _) _

end Go.Proofs.Ytjmgmbigbkllgaa
