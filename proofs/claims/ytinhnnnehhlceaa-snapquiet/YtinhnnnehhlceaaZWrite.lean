
/-
  A worker's write: a frame is taken for a line of the directory, which is stored there, and flushed.
-/
import Derived.Test.YtinhnnnehhlceaaZHas
import Derived.Test.YtinhnnnehhlceaaPkSto
namespace Go.Proofs.Ytinhnnnehhlceaa
open Go.ChangeShapes Go.WideShapes Go.ChangeAt Go.RowKit Go.Joins
set_option maxRecDepth 10000
set_option linter.unusedVariables false
set_option linter.unusedSimpArgs false

theorem lnV_listF (l : List Int) (h : l.length = 8) : iv .u64 l = lnV (listF l) := by
  rw [lnV_iv]
  congr 1
  exact (list_ext0 (n := 8) h (rowOf_len _) fun m hm => by rw [rowOf_get _ m hm]; rfl)
/-- Behind a write: the worker's Dir has the line. -/
def Wk.laid (K : Wk) (S : Sto) (A : Mm) (l : List Int) (at' : Int) : Wk := if putE S A l = 0 then ⟨K.b, K.sl, K.q, K.k, upd K.d at'.toNat S.F.allocV, K.l⟩ else K
theorem put_laid (K : Wk) (S : Sto) (A : Mm) (p : Nat × Int) : K.put S A p = K.laid S A (K.line p) p.2 := rfl
theorem WH.setD {W w : World} {m b x : Nat} {St : Mm → World → (Nat → Prop) → Prop} {S : Sto} {A : Mm} {K : Wk} {sl : Value} {G : Nat → Prop} (M : MemL W m St) (h : WH W m b x St S A K sl w G) (i : Nat) (hi : i < 8) (v : Int) :
    WH W m b x St S A ⟨K.b, K.sl, K.q, K.k, upd K.d i v, K.l⟩ sl (w.setCell ⟨x, 155 + i, none⟩ (.int .i64 v)) G ∧ Same G w (w.setCell ⟨x, 155 + i, none⟩ (.int .i64 v)) := by
  have hk : Keeps (· = x) w (w.setCell ⟨x, 155 + i, none⟩ (.int .i64 v)) := Keeps.setCell (F := (· = x)) (p := ⟨x, 155 + i, none⟩) (Keeps.refl _ _) rfl _
  refine ⟨⟨h.rep.putD i hi v, h.row.same (fun k e => hk.block k (h.slt M k e) (h.ns k e).2.2), (SHas.stay M b S A).ow _ _ _ x h.st (Or.inr (Or.inl rfl)) h.newx hk, h.nx, h.newx, h.ns⟩, fun k hg => ?_⟩
  exact hk.block k ((SHas.stay M b S A).lt _ _ h.st k (Or.inl hg)) (fun e => h.nx (e ▸ hg))


set_option maxHeartbeats 4000000 in
theorem wwrite_any {W w : World} {m b x : Nat} {St : Mm → World → (Nat → Prop) → Prop} {S : Sto} {A : Mm} {K : Wk} {sl : Value} {G : Nat → Prop} (M : MemX W m St) (h : WH W m b x St S A K sl w G) (hS : S.ok) (hA : A.ok 900) (n : Nat) (hn : n < 8) (l : List Int) (hl : l.length = 8) (hw : ∀ z ∈ l, (Lit.int .u64 z).wf = true) :
    Calls Try.prog 71 #[.pointer (some ⟨x, 0, none⟩), .int .i64 (n : Int), .agg (iv .u64 l), .int .i64 0] w (Done (WH W m b x St S.took (putM S A l) (K.laid S A l (n : Int)) sl) w G (.int .i64 (putE S A l))) := by
  rw [lnV_listF l hl]
  have T0 := hide (WH.stay M.toMemL b x S A K sl)
  have O0 := hide ((Held.start (unhide T0) h).alloc (unhide T0) (.cells (lnV (listF l)) 54))
  have CT := hide (fun (w' : World) (G' : Nat → Prop) (h' : SHas W m b St S A w' G') => take_obj M.toMemL h' hS)
  by_cases he : S.F.allocE = 0
  · have EM : Hid (putM S A l = if (layP A S.F.allocV (listF l) 8).2 = 0 then (layP A S.F.allocV (listF l) 8).1.flushZ 0 S.F.allocV else (layP A S.F.allocV (listF l) 8).1) := by show _ = _; unfold putM; rw [if_pos he]
    have EE : Hid (putE S A l = if (layP A S.F.allocV (listF l) 8).2 = 0 then (layP A S.F.allocV (listF l) 8).1.flushE 0 S.F.allocV else (layP A S.F.allocV (listF l) 8).2) := by show _ = _; unfold putE; rw [if_pos he]
    have EK1 : Hid (putE S A l = 0 → K.laid S A l (n : Int) = ⟨K.b, K.sl, K.q, K.k, upd K.d n S.F.allocV, K.l⟩) := fun q => by unfold Wk.laid; rw [if_pos q]; rfl
    have EK2 : Hid (putE S A l ≠ 0 → K.laid S A l (n : Int) = K) := fun q => by unfold Wk.laid; rw [if_neg q]
    have HS : Hid (∀ j, (layP A S.F.allocV (listF l) j).2 = 0 → (layP A S.F.allocV (listF l) (j + 1)).1 = (layP A S.F.allocV (listF l) j).1.storeZ S.F.allocV j (listF l j) ∧ (layP A S.F.allocV (listF l) (j + 1)).2 = (layP A S.F.allocV (listF l) j).1.storeE S.F.allocV j) := fun j q => by
      rw [layP_next q]; exact ⟨rfl, rfl⟩
    have H8 : Hid (∀ j, j ≤ 8 → (layP A S.F.allocV (listF l) j).2 ≠ 0 → layP A S.F.allocV (listF l) 8 = layP A S.F.allocV (listF l) j) := fun j hj q => by
      have := layP_stuck q (8 - j)
      rwa [show j + (8 - j) = 8 by omega] at this
    have HO : Hid (∀ j, j ≤ 8 → (layP A S.F.allocV (listF l) j).1.ok 1000) := fun j hj => ok_mono (layP_ok hA _ (listF l) (listF_inU hw) j) (by omega)
    have H0 : Hid ((layP A S.F.allocV (listF l) 0) = (A, 0)) := rfl
    rw [he] at CT
    obtain ⟨PM, hPM⟩ : ∃ PM, PM = layP A S.F.allocV (listF l) := ⟨_, rfl⟩
    rw [← hPM] at EM EE HS H8 HO H0
    clear hPM
    have HX : Hid (∀ j, j < 8 → (lnV (listF l))[j]? = some (.int .u64 (listF l j))) := fun j hj => lnV_get (listF l) j hj
    have TT := hide (WH.stay M.toMemL b x S.took A K sl)
    have s8 := s8_ln (listF l)
    obtain ⟨g, hg⟩ : ∃ g, g = w.heap.size := ⟨_, rfl⟩
    rw [← hg] at O0
    have HM := hide M
    clear h hS hl hw M hA he
    generalize S.took = S1 at *
    generalize S.F.allocV = V at *
    generalize lnV (listF l) = LV at *
    generalize listF l = lf at *
    go_enter Try.func71, Try.ntmps71
    go_upto_region 3 with fail
    rw [← hg]
    clear hg
    generalize w.alloc (.cells LV 54) = w1 at *
    have pb := (unhide O0).st.rep.pb
    go_wp2_with fail
    refine (unhide CT _ _ (unhide O0).st.st).mono ?_
    intro e w2 hd
    have hd2 := (unhide O0).st.lift hd
    obtain ⟨rfl, -, -⟩ := hd
    have O1 := hide ((unhide O0).call (St' := WH W m b x St S1 A K sl) hd2.2.1 hd2.2.2)
    clear hd2 CT O0 pb T0
    go_upto_region 6 with fail
    have KL := hide ((unhide O1).at g (.cells LV 54) (by simp))
    go_wp2_with (with_reducible refine wpList_load_row (by with_unfolding_all rfl) 54 _ (by with_unfolding_all rfl) g (by with_unfolding_all rfl) _ _ _ _ (unhide KL) Try.underlying54 (by with_unfolding_all rfl) s8 ?_)
    clear KL s8
    go_loopw [37] (fun q wr => ∃ j : Nat, j ≤ 8 ∧ q = .int .i64 j ∧ (PM j).2 = 0 ∧ Held W (WH W m b x St S1 (PM j).1 K sl) w wr G [(g, .cells LV 54)]) (fun q _ => 8 - (intOf q).toNat)
    case atStart => exact ⟨0, by omega, rfl, by rw [unhide H0], by rw [unhide H0]; exact unhide O1⟩
    case round =>
      clear O1 TT
      obtain ⟨j, hj, rfl, hp, hh⟩ := hrel
      have HH := hide hh
      have HP := hide hp
      clear hh hp
      by_cases hlt : j < 8
      · have hlt' : (j : Int) < 8 := by omega
        have hix := fun W => run_index_lineO W LV .i64 j hlt _ (unhide HX j hlt)
        have pm := (unhide HH).st.rep.pm
        have CS := hide ((unhide HH).st.st.store (unhide HM).toMemL (unhide HO j (by omega)) V (j : Int) (lf j))
        rw [← (unhide HS j (unhide HP)).1, ← (unhide HS j (unhide HP)).2] at CS
        go_wp2_with fail
        refine (unhide CS).mono ?_
        intro e w3 hd
        have hd2 := (unhide HH).st.lift hd
        obtain ⟨rfl, -, -⟩ := hd
        have O2 := hide ((unhide HH).call (St' := WH W m b x St S1 (PM (j + 1)).1 K sl) hd2.2.1 hd2.2.2)
        clear hd2 HH CS hix pm
        by_cases hq : (PM (j + 1)).2 = 0
        · have HQ := hide hq
          rw [hq]
          clear hq
          go_wp2_with fail
          go_roundw
          case rel => exact ⟨j + 1, by omega, by go_num, unhide HQ, unhide O2⟩
          case measure => simp [intOf]; omega
        · have e8 := hide (unhide H8 (j + 1) (by omega) hq)
          have EQ : Hid (putE S A l = (PM (j + 1)).2) := (unhide EE).trans (by rw [unhide e8, if_neg hq])
          have EQM : Hid (putM S A l = (PM (j + 1)).1) := (unhide EM).trans (by rw [unhide e8, if_neg hq])
          have EQK : Hid (K.laid S A l (n : Int) = K) := unhide EK2 (by rw [unhide EQ]; exact hq)
          have hqb : ((PM (j + 1)).2 == 0) = false := by simpa using hq
          have hqb2 : ((PM (j + 1)).2 != 0) = true := by simpa using hq
          clear hq
          generalize (PM (j + 1)).2 = E at *
          go_wp2_with fail
          go_ret
          rw [unhide EQ, unhide EQM, unhide EQK]
          exact (unhide O2).done (WH.stay (unhide HM).toMemL b x _ _ K sl) _
      · obtain rfl : j = 8 := by omega
        have pm := (unhide HH).st.rep.pm
        have CF := hide ((unhide HH).st.st.flush (unhide HM) (unhide HO 8 (by omega)) 0 V)
        have EQ : Hid (putE S A l = (PM 8).1.flushE 0 V) := (unhide EE).trans (if_pos (unhide HP))
        have EQM : Hid (putM S A l = (PM 8).1.flushZ 0 V) := (unhide EM).trans (if_pos (unhide HP))
        have EK3 : Hid ((PM 8).1.flushE 0 V = 0 → K.laid S A l (n : Int) = ⟨K.b, K.sl, K.q, K.k, upd K.d n V, K.l⟩) := fun q => unhide EK1 ((unhide EQ).trans q)
        have EK4 : Hid ((PM 8).1.flushE 0 V ≠ 0 → K.laid S A l (n : Int) = K) := fun q => unhide EK2 (by rw [unhide EQ]; exact q)
        clear EE EM EK1 EK2 HS H8 HO H0 HX HP
        generalize (PM 8).1.flushE 0 V = E at *
        generalize (PM 8).1.flushZ 0 V = A2 at *
        generalize (PM 8).1 = A1 at *
        go_wp2_with fail
        refine (unhide CF).mono ?_
        intro e w3 hd
        have hd2 := (unhide HH).st.lift hd
        obtain ⟨rfl, -, -⟩ := hd
        have O2 := hide ((unhide HH).call (St' := WH W m b x St S1 A2 K sl) hd2.2.1 hd2.2.2)
        clear hd2 HH CF pm
        by_cases hE : E = 0
        · have EK5 := hide (unhide EK3 hE)
          subst hE
          have cx := (unhide O2).st.rep.cd n hn
          have fx := (unhide O2).st.rep.fr (155 + n)
          have O3 := hide (Held.turn (unhide O2) ((unhide O2).st.setD (unhide HM).toMemL n hn V))
          have hn8 : (n : Int) < 8 := by omega
          have hn0 : (0 : Int) ≤ (n : Int) := by omega
          clear O2 EK3 EK4
          generalize K.d n = old at *
          go_wp2_with fail
          go_ret
          rw [unhide EQ, unhide EQM, unhide EK5]
          exact (unhide O3).done (WH.stay (unhide HM).toMemL b x _ _ _ sl) _
        · have EK5 := hide (unhide EK4 hE)
          have hqb : (E == 0) = false := by simpa using hE
          have hqb2 : (E != 0) = true := by simpa using hE
          clear hE EK3 EK4
          go_wp2_with fail
          go_ret
          rw [unhide EQ, unhide EQM, unhide EK5]
          exact (unhide O2).done (WH.stay (unhide HM).toMemL b x _ _ K sl) _
  · have EE : Hid (putE S A l = S.F.allocE) := by show _ = _; unfold putE; rw [if_neg he]
    have EM : Hid (putM S A l = A) := by show _ = _; unfold putM; rw [if_neg he]
    have EK : Hid (K.laid S A l (n : Int) = K) := by show _ = _; unfold Wk.laid; rw [if_neg (by rw [unhide EE]; exact he)]
    rw [unhide EM, unhide EE, unhide EK]
    have heb : (S.F.allocE != 0) = true := by simpa using he
    have heb2 : (S.F.allocE == 0) = false := by simpa using he
    obtain ⟨g, hg⟩ : ∃ g, g = w.heap.size := ⟨_, rfl⟩
    rw [← hg] at O0
    have HM := hide M
    clear h hS hl hw M hA he EE EM EK
    generalize S.took = S1 at *
    generalize S.F.allocV = V at *
    generalize S.F.allocE = E at *
    generalize lnV (listF l) = LV at *
    go_enter Try.func71, Try.ntmps71
    go_upto_region 3 with fail
    rw [← hg]
    clear hg
    generalize w.alloc (.cells LV 54) = w1 at *
    have pb := (unhide O0).st.rep.pb
    go_wp2_with fail
    refine (unhide CT _ _ (unhide O0).st.st).mono ?_
    intro e w2 hd
    have hd2 := (unhide O0).st.lift hd
    obtain ⟨rfl, -, -⟩ := hd
    have O1 := hide ((unhide O0).call (St' := WH W m b x St S1 A K sl) hd2.2.1 hd2.2.2)
    clear hd2 CT O0 pb T0
    go_wp2_with fail
    go_ret
    exact (unhide O1).done (WH.stay (unhide HM).toMemL b x _ _ K sl) _

end Go.Proofs.Ytinhnnnehhlceaa
