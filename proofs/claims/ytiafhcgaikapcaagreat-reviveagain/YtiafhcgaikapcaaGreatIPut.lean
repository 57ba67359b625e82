
/-
  revive's wipe, and the function that its putter makes: lines are stored and flushed, one behind the other, up to the first error.
-/
import Derived.Test.YtiafhcgaikapcaaGreatICalls
import Derived.Test.YtiafhcgaikapcaaGreatPkSto
namespace Go.Proofs.YtiafhcgaikapcaaGreat
open Go.ChangeShapes Go.WideShapes Go.ChangeAt Go.RowKit Go.Joins
set_option maxRecDepth 10000
set_option linter.unusedVariables false
set_option linter.unusedSimpArgs false

theorem seqP_stuck {P : Nat → Mm × Int} {F : Nat → Mm → Mm × Int} (h : ∀ j, P (j + 1) = andP (P j) (F j)) {j : Nat} (hj : (P j).2 ≠ 0) : ∀ m, P (j + m) = P j
  | 0 => rfl
  | m + 1 => by
    show P (j + m + 1) = _
    rw [h, seqP_stuck h hj m, andP_no hj]
theorem wipeP_next (A : Mm) (j : Nat) : wipeP A (j + 1) = andP (wipeP A j) fun B => andP (stP (j : Int) 7 0 B) (flP (j : Int)) := rfl
theorem wipeP_stuck {A : Mm} {j m : Nat} (hj : (wipeP A j).2 ≠ 0) (h : j ≤ m) : wipeP A m = wipeP A j := by
  have := seqP_stuck (P := wipeP A) (F := fun j B => andP (stP (j : Int) 7 0 B) (flP (j : Int))) (fun _ => rfl) hj (m - j)
  rwa [show j + (m - j) = m by omega] at this
def wpP (A : Mm) (fr : Nat) : Mm × Int := andP (wipeP A fr) feP

set_option maxHeartbeats 4000000 in
theorem wipe_any {W w : World} {m : Nat} {St : Mm → World → (Nat → Prop) → Prop} {A : Mm} {G : Nat → Prop} (M : MemI W m St) (h : St A w G) (hA : A.ok 800) (fr : Nat) (hfr : fr ≤ 34) :
    Calls Tryz.prog 108 #[.pointer (some ⟨m, 0, none⟩), .int .i64 (fr : Int)] w (Done (St (wpP A fr).1) w G (.int .i64 (wpP A fr).2)) := by
  have HM := hide M
  have O0 := hide (Held.start (M.stay A) h)
  have HO : Hid (∀ j, j ≤ fr → (wipeP A j).1.ok 900) := fun j hj => ok_mono (wipeP_ok hA j) (by omega)
  have HN : Hid (∀ j, (wipeP A j).2 = 0 → wipeP A (j + 1) = andP (stP (j : Int) 7 0 (wipeP A j).1) (flP (j : Int))) := fun j hj => (wipeP_next A j).trans (andP_ok hj)
  have HS : Hid (∀ j, j ≤ fr → (wipeP A j).2 ≠ 0 → wpP A fr = wipeP A j) := fun j hj h0 => by
    have e := wipeP_stuck h0 hj
    unfold wpP
    rw [e]; exact andP_no h0
  have HE : Hid ((wipeP A fr).2 = 0 → wpP A fr = feP (wipeP A fr).1) := fun h0 => andP_ok h0
  have H0 : Hid (wipeP A 0 = (A, 0)) := rfl
  have HF : Hid ((fr : Int) ≤ 34) := by show _ ≤ _; omega
  clear h hA M hfr
  generalize wpP A fr = RR at *
  generalize wipeP A = P at *
  go_enter Tryz.func108, Tryz.ntmps108
  go_wp2_with fail
  go_loopw [9] (fun q wr => ∃ j : Nat, j ≤ fr ∧ q = .int .i64 j ∧ (P j).2 = 0 ∧ Held W (St (P j).1) w wr G []) (fun q _ => fr - (intOf q).toNat)
  case atStart => exact ⟨0, by omega, rfl, by rw [unhide H0], by rw [unhide H0]; exact unhide O0⟩
  case round =>
    clear O0
    obtain ⟨j, hj, rfl, hp, hh⟩ := hrel
    have HH := hide hh
    have HP := hide hp
    clear hh hp
    have hF := unhide HF
    by_cases hlt : j < fr
    · have hlt' : (j : Int) < (fr : Int) := by omega
      have E1 := hide (unhide HN j (unhide HP))
      have CS := hide ((unhide HM).store _ _ _ (unhide HH).st (ok_mono (unhide HO j hj) (by omega)) (j : Int) 7 0)
      have OK1 : Hid (((P j).1.storeZ (j : Int) 7 0).ok 1000) := ok_mono (ok_storeZ (unhide HO j hj) _ _ _ ⟨by decide, by decide⟩) (by omega)
      have E2 : Hid ((P j).1.storeE (j : Int) 7 ≠ 0 → P (j + 1) = ((P j).1.storeZ (j : Int) 7 0, (P j).1.storeE (j : Int) 7)) := fun h0 => (unhide E1).trans (andP_no h0)
      have E3 : Hid ((P j).1.storeE (j : Int) 7 = 0 → P (j + 1) = (((P j).1.storeZ (j : Int) 7 0).flushZ 0 (j : Int), ((P j).1.storeZ (j : Int) 7 0).flushE 0 (j : Int))) := fun h0 => (unhide E1).trans (andP_ok h0)
      clear E1
      generalize (P j).1.storeZ (j : Int) 7 0 = A1 at *
      generalize (P j).1.storeE (j : Int) 7 = X1 at *
      go_wp2_with fail
      refine (unhide CS).mono ?_
      rintro e w1 ⟨rfl, h1, h2⟩
      have O1 := hide ((unhide HH).call (St' := St A1) h1 h2)
      clear h1 h2 HH CS
      by_cases h0 : X1 = 0
      · have E4 := hide (unhide E3 h0)
        subst h0
        have CF := hide ((unhide HM).flush _ _ _ (unhide O1).st (unhide OK1) 0 (j : Int))
        clear E2 E3
        generalize A1.flushZ 0 (j : Int) = A2 at *
        generalize A1.flushE 0 (j : Int) = X2 at *
        go_wp2_with fail
        refine (unhide CF).mono ?_
        rintro e w2 ⟨rfl, h1, h2⟩
        have O2 := hide ((unhide O1).call (St' := St A2) h1 h2)
        clear h1 h2 O1 CF
        by_cases h02 : X2 = 0
        · subst h02
          go_wp2_with fail
          go_roundw
          case rel => exact ⟨j + 1, by omega, by go_num, by rw [unhide E4], by rw [unhide E4]; exact unhide O2⟩
          case measure => simp [intOf]; omega
        · have hb1 : (X2 == 0) = false := by simpa using h02
          have hb2 : (X2 != 0) = true := by simpa using h02
          have ER := hide (unhide HS (j + 1) (by omega) (by rw [unhide E4]; exact h02))
          clear h02
          go_wp2_with fail
          go_ret
          rw [unhide ER, unhide E4]
          exact (unhide O2).done ((unhide HM).stay _) _
      · have hb1 : (X1 == 0) = false := by simpa using h0
        have hb2 : (X1 != 0) = true := by simpa using h0
        have E4 := hide (unhide E2 h0)
        have ER := hide (unhide HS (j + 1) (by omega) (by rw [unhide E4]; exact h0))
        clear h0
        go_wp2_with fail
        go_ret
        rw [unhide ER, unhide E4]
        exact (unhide O1).done ((unhide HM).stay _) _
    · obtain rfl : j = fr := by omega
      have ER := hide (unhide HE (unhide HP))
      have CF := hide ((unhide HM).fence _ _ _ (unhide HH).st (ok_mono (unhide HO j hj) (by omega)) 0)
      go_wp2_with fail
      refine (unhide CF).mono ?_
      rintro e w1 ⟨rfl, h1, h2⟩
      have O1 := hide ((unhide HH).call (St' := St _) h1 h2)
      clear h1 h2 HH CF
      go_wp2_with fail
      go_ret
      rw [unhide ER]
      exact (unhide O1).done ((unhide HM).stay _) _

/-! ### the putter -/
/-- The next line, and the memory, in blocks of their own. -/
def PutSt (gn gm m : Nat) (z : Int) (w : World) (C : Nat → Prop) : Prop :=
  (∀ k, C k ↔ k = gn ∨ k = gm) ∧ gn ≠ gm ∧ w.heap[gn]? = some (.cells #[.int .i64 z] 3 (0, 0)) ∧ w.heap[gm]? = some (.cells #[.pointer (some ⟨m, 0, none⟩)] 26 (0, 0))
theorem putSt_loc (gn gm m : Nat) (z : Int) : Loc (PutSt gn gm m z) := fun w w' C ⟨h1, h2, h3, h4⟩ hs => ⟨h1, h2, (hs gn ((h1 gn).2 (Or.inl rfl))).trans h3, (hs gm ((h1 gm).2 (Or.inr rfl))).trans h4⟩
section
variable {W w : World} {St : World → (Nat → Prop) → Prop} {gn gm m : Nat} {z : Int} {G : Nat → Prop}
theorem QSt.cn (h : QSt W St (PutSt gn gm m z) w G) : w.cell? ⟨gn, 0, none⟩ = some (.int .i64 z) := by
  obtain ⟨C, _, ⟨_, _, h3, _⟩, _⟩ := h
  rw [cell_of_block h3]; rfl
theorem QSt.fn (h : QSt W St (PutSt gn gm m z) w G) : w.frozen? ⟨gn, 0, none⟩ = false := by
  obtain ⟨C, _, ⟨_, _, h3, _⟩, _⟩ := h
  exact unfrozen_of_block h3 0
theorem QSt.cm (h : QSt W St (PutSt gn gm m z) w G) : w.cell? ⟨gm, 0, none⟩ = some (.pointer (some ⟨m, 0, none⟩)) := by
  obtain ⟨C, _, ⟨_, _, _, h4⟩, _⟩ := h
  rw [cell_of_block h4]; rfl
theorem QSt.bump (S : Stay W St) (h : QSt W St (PutSt gn gm m z) w G) (y : Int) : QSt W St (PutSt gn gm m y) (w.setCell ⟨gn, 0, none⟩ (.int .i64 y)) G ∧ Same G w (w.setCell ⟨gn, 0, none⟩ (.int .i64 y)) := by
  obtain ⟨C, h1, ⟨r1, r2, r3, r4⟩, h3, h4⟩ := h
  have hk : Keeps (· = gn) w (w.setCell ⟨gn, 0, none⟩ (.int .i64 y)) := Keeps.setCell (F := (· = gn)) (p := ⟨gn, 0, none⟩) (Keeps.refl _ _) rfl _
  have cg : C gn := (r1 gn).2 (Or.inl rfl)
  refine ⟨⟨C, S.ow _ _ _ gn h1 (Or.inr cg) (h4 gn cg) hk, ⟨r1, r2, (block_setCell r3 _).trans rfl, ?_⟩, h3, h4⟩, fun k hg => hk.block k (S.lt _ _ h1 k (Or.inl hg)) (fun e => h3 k hg (e ▸ cg))⟩
  exact (hk.block gm (S.lt _ _ h1 gm (Or.inr ((r1 gm).2 (Or.inr rfl)))) (fun e => r2 e.symm)).trans r4
theorem QSt.begin (S : Stay W St) (h : St w G) (z : Int) : QSt W St (PutSt (w.heap.size + 1) w.heap.size m z) ((w.alloc (.cells #[.pointer (some ⟨m, 0, none⟩)] 26)).alloc (.cells #[.int .i64 z] 3)) G ∧
    Same G w ((w.alloc (.cells #[.pointer (some ⟨m, 0, none⟩)] 26)).alloc (.cells #[.int .i64 z] 3)) := by
  have hsz := (S.sz _ _ h).size
  have h2 := S.al _ _ (.cells #[.int .i64 z] 3) (S.al _ _ (.cells #[.pointer (some ⟨m, 0, none⟩)] 26) h)
  have hw1 : (w.alloc (.cells #[.pointer (some ⟨m, 0, none⟩)] 26)).heap.size = w.heap.size + 1 := by simp
  rw [hw1] at h2
  obtain ⟨a, b⟩ := heap2 w (.cells #[.pointer (some ⟨m, 0, none⟩)] 26) (.cells #[.int .i64 z] 3)
  refine ⟨⟨fun k => k = w.heap.size + 1 ∨ k = w.heap.size, S.ls _ _ _ h2 (fun k hk => ?_), ⟨fun k => Iff.rfl, by omega, b, a⟩, fun k hk hc => ?_, fun k hk => ?_⟩, fun k hk => ?_⟩
  · rcases hk with hk | hk | hk
    · exact Or.inl (Or.inl hk)
    · exact Or.inr hk
    · exact Or.inl (Or.inr hk)
  · have := S.lt _ _ h k hk; omega
  · omega
  · have hk1 := S.lt _ _ h k hk
    rw [Below.heap_alloc _ _ _ (by rw [hw1]; omega), Below.heap_alloc _ _ _ hk1]
end
theorem layP_skip {A : Mm} {z : Int} {l : Nat → Int} {k : Nat} (h : (layP A z l k).2 ≠ 0) : layP A z l (k + 1) = layP A z l k := if_neg h
set_option maxHeartbeats 4000000 in
theorem put_any {W w : World} {m gn gm : Nat} {St : Mm → World → (Nat → Prop) → Prop} {A : Mm} {G : Nat → Prop} (M : MemI W m St) (z : Int) (hz : 0 ≤ z ∧ z < 100000) (h : QSt W (St A) (PutSt gn gm m z) w G) (hA : A.ok 900) (f : Nat → Int) (hf : ∀ j, InU (f j)) :
    Calls Tryz.prog 191 #[.agg (lnV f), .int .i64 0, .pointer (some ⟨gn, 0, none⟩), .pointer (some ⟨gm, 0, none⟩)] w (Done (QSt W (St (putP z f A).1) (PutSt gn gm m (z + 1))) w G (.tuple #[.int .i64 z, .int .i64 (putP z f A).2])) := by
  have HM := hide M
  have ST : Hid (∀ A y, Stay W (QSt W (St A) (PutSt gn gm m y))) := fun A y => QSt.stay (M.stay A) (putSt_loc _ _ _ _)
  have O0 := hide ((Held.start (unhide ST A z) h).alloc (unhide ST A z) (.cells (lnV f) 83))
  have HO : Hid (∀ j, j ≤ 8 → (layP A z f j).1.ok 1000) := fun j hj => ok_mono (layP_ok hA z f hf j) (by omega)
  have HN : Hid (∀ j, (layP A z f j).2 = 0 → layP A z f (j + 1) = ((layP A z f j).1.storeZ z j (f j), (layP A z f j).1.storeE z j)) := fun j hj => layP_next hj
  have HK : Hid (∀ j, (layP A z f j).2 ≠ 0 → layP A z f (j + 1) = layP A z f j) := fun j hj => layP_skip hj
  have HE : Hid ((layP A z f 8).2 = 0 → putP z f A = ((layP A z f 8).1.flushZ 0 z, (layP A z f 8).1.flushE 0 z)) := fun h0 => andP_ok h0
  have HE2 : Hid ((layP A z f 8).2 ≠ 0 → putP z f A = layP A z f 8) := fun h0 => andP_no h0
  have H0 : Hid (layP A z f 0 = (A, 0)) := rfl
  have HX : Hid (∀ j, j < 8 → (lnV f)[j]? = some (.int .u64 (f j))) := fun j hj => lnV_get f j hj
  have HV : Hid (∀ j, InU (f j)) := hf
  have HZ := hide hz
  have s8 := s8_ln f
  clear h hA M hf hz
  generalize putP z f A = RR at *
  generalize layP A z f = P at *
  generalize lnV f = LV at *
  obtain ⟨g, hg⟩ : ∃ g, g = w.heap.size := ⟨_, rfl⟩
  rw [← hg] at O0
  go_enter Tryz.func191, Tryz.ntmps191
  go_upto_region 1 with fail
  rw [← hg]
  clear hg
  generalize w.alloc (.cells LV 83) = w1 at *
  have cn := (unhide O0).st.cn
  have fn := (unhide O0).st.fn
  have hz1 := unhide HZ
  have O1 := hide (Held.turn (unhide O0) ((unhide O0).st.bump ((unhide HM).stay A) (z + 1)))
  go_upto_region 3 with fail
  clear O0 cn fn
  generalize w1.setCell ⟨gn, 0, none⟩ (.int .i64 (z + 1)) = w2 at *
  have KL := hide ((unhide O1).at g (.cells LV 83) (by simp))
  go_wp2_with (with_reducible refine wpList_load_row (by with_unfolding_all rfl) 83 _ (by with_unfolding_all rfl) g (by with_unfolding_all rfl) _ _ _ _ (unhide KL) Tryz.underlying83 (by with_unfolding_all rfl) s8 ?_)
  go_loopw [1, 15] (fun e q wr => ∃ j : Nat, j ≤ 8 ∧ q = .int .i64 j ∧ e = .int .i64 (P j).2 ∧ Held W (QSt W (St (P j).1) (PutSt gn gm m (z + 1))) w wr G [(g, .cells LV 83)]) (fun _ q _ => 8 - (intOf q).toNat)
  case atStart => exact ⟨0, by omega, rfl, by rw [unhide H0], by rw [unhide H0]; exact unhide O1⟩
  case round =>
    clear O1 KL
    obtain ⟨j, hj, rfl, rfl, hh⟩ := hrel
    have HH := hide hh
    clear hh
    by_cases hlt : j < 8
    · have hlt' : (j : Int) < 8 := by omega
      have hix := fun W => run_index_lineO W LV .i64 j hlt _ (unhide HX j hlt)
      by_cases h0 : (P j).2 = 0
      · have E1 := hide (unhide HN j h0)
        have hb : ((P j).2 == 0) = true := by simpa using h0
        have cm := (unhide HH).st.cm
        have CS := hide ((unhide HH).st.via (putSt_loc _ _ _ _) fun G' h' => (unhide HM).store _ _ _ h' (unhide HO j hj) z (j : Int) (f j))
        generalize (P j).1.storeZ z (j : Int) (f j) = A1 at *
        generalize (P j).1.storeE z (j : Int) = X1 at *
        clear h0
        generalize (P j).2 = E0 at *
        go_wp2_with fail
        refine (unhide CS).mono ?_
        rintro e w3 ⟨rfl, h1, h2⟩
        have O2 := hide ((unhide HH).call (St' := QSt W (St A1) (PutSt gn gm m (z + 1))) h1 h2)
        clear h1 h2 HH CS cm hix
        go_wp2_with fail
        go_roundw
        case rel => exact ⟨j + 1, by omega, by go_num, by rw [unhide E1], by rw [unhide E1]; exact unhide O2⟩
        case measure => simp [intOf]; omega
      · have E1 := hide (unhide HK j h0)
        have hb : ((P j).2 == 0) = false := by simpa using h0
        have O2 := HH
        clear h0 HH
        rw [← unhide E1] at O2 hb
        have HQ : Hid ((P j).2 = (P (j + 1)).2) := by show _ = _; rw [unhide E1]
        rw [unhide HQ]
        go_wp2_with fail
        go_roundw
        case rel => exact ⟨j + 1, by omega, by go_num, rfl, unhide O2⟩
        case measure => simp [intOf]; omega
    · obtain rfl : j = 8 := by omega
      by_cases h0 : (P 8).2 = 0
      · have E1 := hide (unhide HE h0)
        have hb : ((P 8).2 == 0) = true := by simpa using h0
        have cm := (unhide HH).st.cm
        have CF := hide ((unhide HH).st.via (putSt_loc _ _ _ _) fun G' h' => (unhide HM).flush _ _ _ h' (unhide HO 8 (by omega)) 0 z)
        clear h0
        generalize (P 8).1.flushZ 0 z = A1 at *
        generalize (P 8).1.flushE 0 z = X1 at *
        generalize (P 8).2 = E0 at *
        go_wp2_with fail
        refine (unhide CF).mono ?_
        rintro e w3 ⟨rfl, h1, h2⟩
        have O2 := hide ((unhide HH).call (St' := QSt W (St A1) (PutSt gn gm m (z + 1))) h1 h2)
        clear h1 h2 HH CF cm
        go_wp2_with fail
        go_ret2
        rw [unhide E1]
        exact (unhide O2).done (unhide ST _ _) _
      · have E1 := hide (unhide HE2 h0)
        have hb : ((P 8).2 == 0) = false := by simpa using h0
        have EA : Hid (RR.1 = (P 8).1) := by show _ = _; rw [unhide E1]
        have EB : Hid (RR.2 = (P 8).2) := by show _ = _; rw [unhide E1]
        clear h0 E1 HE HE2
        generalize (P 8).2 = E0 at *
        go_wp2_with fail
        go_ret2
        rw [unhide EA, unhide EB]
        exact (unhide HH).done (unhide ST _ _) _
theorem putter_any {w : World} {m : Nat} (z : Int) :
    Calls Tryz.prog 162 #[.pointer (some ⟨m, 0, none⟩), .int .i64 z] w fun e w' => e = .returned (.func (.func 191) #[] #[.pointer (some ⟨w.heap.size + 1, 0, none⟩), .pointer (some ⟨w.heap.size, 0, none⟩)]) ∧ w' = (w.alloc (.cells #[.pointer (some ⟨m, 0, none⟩)] 26)).alloc (.cells #[.int .i64 z] 3) := by
  go_enter Tryz.func162, Tryz.ntmps162
  go_wp2_with fail
  go_ret
  exact ⟨rfl, rfl⟩

end Go.Proofs.YtiafhcgaikapcaaGreat
