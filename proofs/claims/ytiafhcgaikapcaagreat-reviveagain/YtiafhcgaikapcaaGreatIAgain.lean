
/-
  revive's redo: what was journalled is done again, record by record.
-/
import Derived.Test.YtiafhcgaikapcaaGreatICalls
import Derived.Test.YtiafhcgaikapcaaGreatIRedo
import Derived.Test.YtiafhcgaikapcaaGreatPkScan
import Derived.Test.YtiafhcgaikapcaaGreatPkCh
import Derived.Test.YtiafhcgaikapcaaGreatPkTel
import Derived.Test.YtiafhcgaikapcaaGreatPkShow
namespace Go.Proofs.YtiafhcgaikapcaaGreat
open Go.ChangeShapes Go.WideShapes Go.ChangeAt Go.RowKit Go.Joins
set_option maxRecDepth 10000
set_option linter.unusedVariables false
set_option linter.unusedSimpArgs false

theorem SHas.scan {W w : World} {m b : Nat} {St : Mm → World → (Nat → Prop) → Prop} {S : Sto} {A : Mm} {G : Nat → Prop} (M : MemI W m St) (h : SHas W m b St S A w G) (hA : A.ok 1000) (z : Int) :
    Calls Tryz.prog 168 #[.pointer (some ⟨m, 0, none⟩), .int .i64 z] w (ScanI W w (SHas W m b St S A) G (A.scanV z) (A.scanE z)) :=
  (M.scan w _ A h.st hA z).mono fun e w' ⟨v, he, ⟨C, h1, h2, h3, h4⟩, hs⟩ => ⟨v, he, ⟨C, ⟨by
    have := h.rep
    unfold SRep Blk at this ⊢
    rw [hs b (Or.inr rfl)]; exact this, (M.stay A).ls _ _ _ h1 (fun k hk => by
      rcases hk with (hk | hk) | hk
      · exact Or.inl (Or.inl hk)
      · exact Or.inr hk
      · exact Or.inl (Or.inr hk)), fun hk => by
      rcases hk with hk | hk
      · exact h.nb hk
      · exact h3 b (Or.inr rfl) hk, h.new⟩, h2, fun k hk => h3 k (Or.inl hk), h4⟩, fun k hk => hs k (Or.inl hk)⟩
theorem sort_mem : ∀ (l : List Rc) (r : Rc), r ∈ sortR l → r ∈ l := by
  have key : ∀ (l out : List Rc) (r : Rc), r ∈ l.foldl insR out → r ∈ out ∨ r ∈ l := fun l => by
    induction l with
    | nil => intro out r h; exact Or.inl h
    | cons x l ih =>
      intro out r h
      rcases ih (insR out x) r h with q | q
      · unfold insR at q
        rw [List.mem_append, List.mem_cons] at q
        rcases q with q | q | q
        · exact Or.inl (List.mem_of_mem_take q)
        · exact Or.inr (by rw [q]; exact List.mem_cons_self)
        · exact Or.inl (List.mem_of_mem_drop q)
      · exact Or.inr (List.mem_cons_of_mem _ q)
  intro l r h
  rcases key l [] r h with q | q
  · cases q
  · exact q
theorem sort_len (l : List Rc) : (sortR l).length = l.length := by
  have key : ∀ (l out : List Rc), (l.foldl insR out).length = out.length + l.length := fun l => by
    induction l with
    | nil => intro out; rfl
    | cons x l ih =>
      intro out
      show (l.foldl insR (insR out x)).length = _
      rw [ih]
      unfold insR
      simp only [List.length_append, List.length_cons, List.length_take, List.length_drop]
      omega
  have := key l []
  simpa [sortR] using this
theorem Mm.rs_may (A : Mm) : ∀ r ∈ A.rs, mayR r = true := fun r hr => by
  unfold Mm.rs Mm.scanV at hr
  split at hr
  · exact recs_may A _ r (sort_mem _ r hr)
  · cases hr
theorem Mm.rs_len (A : Mm) (h : A.cs ≤ 8) : A.rs.length ≤ 32 := by
  unfold Mm.rs Mm.scanV
  split
  · rw [sort_len]
    have := recs_len A (4 * A.cs.toNat)
    omega
  · exact Nat.zero_le _
theorem readRV_in {l : List Int} (hw : ∀ z ∈ l, (Lit.int .u64 z).wf = true) : InU (readRV l).v := readRV_ok l hw
theorem recs_inU {A : Mm} {B : Nat} (h : A.ok B) : ∀ j, ∀ r ∈ A.recs j, InU r.v
  | 0, r, hr => by cases hr
  | j + 1, r, hr => by
    unfold Mm.recs recAt at hr
    rcases List.mem_append.1 hr with q | q
    · exact recs_inU h j r q
    · split at q
      · rw [List.mem_singleton] at q
        rw [q]; exact readRV_in (rowN_wf h _)
      · cases q
theorem Mm.rs_inU {A : Mm} {B : Nat} (h : A.ok B) : ∀ r ∈ A.rs, InU r.v := fun r hr => by
  unfold Mm.rs Mm.scanV at hr
  split at hr
  · exact recs_inU h _ r (sort_mem _ r hr)
  · cases hr
/-- Behind a redo: the next number, or an error. -/
def ReP (W : World) (m b : Nat) (St : Mm → World → (Nat → Prop) → Prop) (P : Sto × Mm × Int) (N : Int) (w : World) (G : Nat → Prop) (e : Ending) (w' : World) : Prop :=
  ∃ z, e = .returned (.tuple #[.int .i64 z, .int .i64 P.2.2]) ∧ (P.2.2 = 0 → z = N) ∧ SHas W m b St P.1 P.2.1 w' G ∧ Same G w w'
theorem im_allocZ {P : Program} {o : Oper} {a : Act} {w : World} {K : Act → World → Prop} {Q : Exit → Act → World → Prop} (t : TypeId) (ho : o.op = .alloc t) (z : Array Value) (hz : (P.info? t).map (·.zero) = some (some (.agg z)))
    (h : K (a.put o.dst (.pointer (some ⟨w.heap.size, 0, none⟩))) (w.alloc (.cells z t))) : o.wp P a w K Q := by
  cases hi : P.info? t with
  | none => rw [hi] at hz; cases hz
  | some i =>
    rw [hi] at hz
    have hz' : i.zero = some (.agg z) := by simpa using hz
    have hr : (zeroValue t).run P w = .ok (.agg z) w := by
      unfold zeroValue
      have ht : (typeInfo t).run P w = .ok i w := by
        unfold typeInfo
        simp [go_sem, hi]
      rw [Sem.run_bind, ht]
      simp [hz']
    have hb : Oper.wp P o a w K Q = K (a.put o.dst (.pointer (some ⟨w.heap.size, 0, none⟩))) (w.alloc (.cells z t)) := by
      unfold Oper.wp execOp
      simp [ho, go_sem, hr]
    rw [hb]; exact h
theorem zero_tabA : (Tryz.prog.info? 66).map (·.zero) = some (some (.agg (tabV fun _ => ze))) := by kernel_rfl
theorem QSt.recs {W w : World} {St : World → (Nat → Prop) → Prop} {base n cap : Nat} {p : Option Addr} {rs : List Rc} {G : Nat → Prop} (h : QSt W St (RecSt base (.slice p n cap) rs) w G) : n = rs.length ∧ ∀ i, i < rs.length → ∃ g, p = some ⟨g, 0, none⟩ ∧ w.rangeAt g (i * 4) (rv (rs.getD i zr)).toList := by
  obtain ⟨C, _, ⟨_, h2⟩, _⟩ := h
  obtain ⟨p', cap', e, h3⟩ := owns_open h2
  obtain ⟨rfl, rfl, rfl⟩ := Value.slice.inj e
  exact ⟨rfl, fun i hi => by obtain ⟨g, e1, _, e3⟩ := h3 i hi; exact ⟨g, e1, e3⟩⟩
theorem QSt.form {W w : World} {St : World → (Nat → Prop) → Prop} {base : Nat} {v : Value} {rs : List Rc} {G : Nat → Prop} (h : QSt W St (RecSt base v rs) w G) : ∃ p cap, v = .slice p rs.length cap := by
  obtain ⟨C, _, ⟨_, h2⟩, _⟩ := h
  obtain ⟨p', cap', e, _⟩ := owns_open h2
  exact ⟨p', cap', e⟩
theorem ReP.of {W w0 w' : World} {m b : Nat} {St : Mm → World → (Nat → Prop) → Prop} {P : Sto × Mm × Int} {S : Sto} {A : Mm} {E N z : Int} {G : Nat → Prop} {L : List (Nat × Obj)} {R : World → (Nat → Prop) → Prop} (M : MemL W m St) (h : Held W (QSt W (SHas W m b St S A) R) w0 w' G L) (hP : P = (S, A, E)) (hz : E = 0 → z = N) :
    ReP W m b St P N w0 G (.returned (.tuple #[.int .i64 z, .int .i64 E])) w' := by
  subst hP
  exact ⟨z, rfl, hz, (SHas.stay M b S A).ls _ _ _ (QSt.drop (SHas.stay M b S A) h.1) (fun k hk => Or.inl hk), h.2.2⟩

set_option maxHeartbeats 16000000 in
theorem imredo_any {W w : World} {m b : Nat} {St : Mm → World → (Nat → Prop) → Prop} {S : Sto} {A : Mm} {G : Nat → Prop} (M : MemI W m St) (h : SHas W m b St S A w G) (hS : S.ok) (B : Nat) (hA : A.ok B) (hB : B + 8 * A.rs.length ≤ 800) (hon : A.on = true) (c : Nat) (hc : A.cs = (c : Int)) (c1 : 1 ≤ c) (c8 : c ≤ 8) (g0 r0 : Int) (hsq : 0 ≤ A.sq ∧ A.sq ≤ 1099511627776) :
    Calls Tryz.prog 117 #[.pointer (some ⟨m, 0, none⟩), .pointer (some ⟨b, 0, none⟩), .agg #[.int .i64 g0, .int .i64 r0, .int .i64 A.sq, .int .i64 (c : Int)]] w (ReP W m b St (redP S.w A.sq A.rs S A A.rs.length) (grQ A.sq A.rs A.rs.length + 1) w G) := by
  have HM := hide M
  have T0 := hide (SHas.stay M.toMemL b S A)
  have O0 := hide ((Held.start (unhide T0) h).alloc (unhide T0) (.cells #[.int .i64 g0, .int .i64 r0, .int .i64 A.sq, .int .i64 (c : Int)] 49))
  have hscE : A.scanE (c : Int) = 0 := by unfold Mm.scanE; rw [if_pos ⟨by omega, by omega⟩, if_pos hon]
  have hscV : A.scanV (c : Int) = A.rs := by unfold Mm.rs; rw [hc]
  have CS := hide (fun (w' : World) (G' : Nat → Prop) (h' : SHas W m b St S A w' G') => h'.scan M (ok_mono hA (by omega)) (c : Int))
  rw [hscE, hscV] at CS
  have hlen : A.rs.length ≤ 32 := A.rs_len (by omega)
  have HMAY := hide A.rs_may
  have HINU := hide (Mm.rs_inU hA)
  have HST : Hid (∀ (S : Sto) (A : Mm) v rs, Stay W (QSt W (SHas W m b St S A) (RecSt W.heap.size v rs))) := fun S A v rs => QSt.stay (SHas.stay M.toMemL b S A) (recSt_loc _ _ _)
  have HOK := hide (fun j hj => redP_ok (t := S.w) (q := A.sq) (Mm.rs_inU hA) hS hA j hj)
  have HY := hide (fun (j : Nat) (h1 : (redP S.w A.sq A.rs S A j).2.2 = 0) h2 => redP_yes h1 h2)
  have HN := hide (fun (j : Nat) h2 => redP_not (t := S.w) (q := A.sq) (rs := A.rs) (S := S) (A := A) (j := j) h2)
  have HK := hide (fun (j : Nat) (h1 : (redP S.w A.sq A.rs S A j).2.2 ≠ 0) => redP_stuck h1)
  have H0 : Hid (redP S.w A.sq A.rs S A 0 = (S, A, 0)) := rfl
  have HGR : Hid (∀ j, grQ A.sq A.rs (j + 1) = max (grQ A.sq A.rs j) (A.rs.getD j zr).q) := fun _ => rfl
  have HG0 : Hid (grQ A.sq A.rs 0 = A.sq) := rfl
  have HB : Hid (B + 8 * A.rs.length ≤ 800) := hB
  have HTW : Hid (∀ d : Nat, d < 49 → (tabV S.w)[d * 3]? = some (.int .i64 (S.w d).k)) := fun d hd => by rw [tabV_cell _ _ (by omega), fl3_0]
  have s147 := s147_tab S.w
  have hszt : Hid ((tabV fun _ => ze).size = (tabV S.w).size) := by show _ = _; rw [tabV_size, tabV_size]
  have ZT := hide zero_tabA
  have XT := hide (tabV_one S.w)
  have CT := hide (fun (w' : World) (C : Nat → Prop) (h' : SHas W m b St S A w' C) => table_obj h'.rep)
  clear h hA hB hon hc hscE hscV
  generalize (tabV fun _ => ze) = ZTV at *
  generalize hTV : tabV S.w = TV at *
  clear hTV
  obtain ⟨t, ht⟩ : ∃ t, t = S.w := ⟨_, rfl⟩
  rw [← ht] at HY HN HK H0 HOK HTW ⊢
  clear ht
  generalize A.sq = sq at *
  generalize A.rs = rs at *
  obtain ⟨g5, hg5⟩ : ∃ g, g = w.heap.size := ⟨_, rfl⟩
  rw [← hg5] at O0
  go_enter Tryz.func117, Tryz.ntmps117
  go_upto_region 1 with fail
  rw [← hg5]
  clear hg5
  generalize w.alloc (.cells #[.int .i64 g0, .int .i64 r0, .int .i64 sq, .int .i64 (c : Int)] 49) = w1 at *
  have k3 : w1.cell? ⟨g5, 3, none⟩ = some (.int .i64 (c : Int)) := by rw [cell_of_block ((unhide O0).at g5 (.cells #[.int .i64 g0, .int .i64 r0, .int .i64 sq, .int .i64 (c : Int)] 49) (by simp))]; rfl
  go_wp2_with fail
  refine (unhide CS _ _ (unhide O0).st).mono ?_
  rintro e w2 ⟨v, rfl, h1, h2⟩
  obtain ⟨p, cap, rfl⟩ := h1.form
  have O1 := hide ((unhide O0).call (St' := QSt W (SHas W m b St S A) (RecSt W.heap.size (.slice p rs.length cap) rs)) h1 h2)
  clear h1 h2 CS O0 k3 T0
  go_upto_region 4 with fail
  have O2 := hide ((unhide O1).drew (unhide HST _ _ _ _))
  clear O1
  have HCS : Hid (∀ (w' : World) L, Held W (QSt W (SHas W m b St S A) (RecSt W.heap.size (.slice p rs.length cap) rs)) w w' G L → (g5, Obj.cells #[.int .i64 g0, .int .i64 r0, .int .i64 sq, .int .i64 (c : Int)] 49 (0, 0)) ∈ L → w'.cell? ⟨g5, 2, none⟩ = some (.int .i64 sq)) := fun w' L h hm => by rw [cell_of_block (h.at g5 _ hm)]; rfl
  have CT2 : Hid (∀ (w' : World) L, Held W (QSt W (SHas W m b St S A) (RecSt W.heap.size (.slice p rs.length cap) rs)) w w' G L → Calls Tryz.prog 39 #[.pointer (some ⟨b, 0, none⟩)] w' fun e w'' => e = .returned (.agg TV) ∧ Below w'.heap.size w' w'') := fun w' L h => by
    obtain ⟨C, hC, _⟩ := h.1
    exact unhide CT w' _ hC
  clear CT
  have k2 := unhide HCS _ _ (unhide O2) (by simp)
  refine wp_region_noPanic ?_
  refine wp_region_held_drew (S := fun w' => w'.cell? ⟨g5, 2, none⟩ = some (.int .i64 sq)) (by kernel_rfl) k2 (fun hHeld => ?_)
  clear k2
  generalize w2.drew = w3 at *
  refine take_at 0 24 (v := ?_) rfl rfl (by kernel_rfl) (by kernel_rfl) (by kernel_rfl) (Or.inl ⟨by rfl, ?_⟩) hHeld ?_
  rotate_left
  · intro w hSw; go_simp; with_reducible rfl
  simp only [Act.put, List.setIfInBounds_toArray, List.set_cons_zero, List.set_cons_succ]
  refine take_at 1 25 (v := ?_) rfl rfl (by kernel_rfl) (by kernel_rfl) (by kernel_rfl) (Or.inl ⟨by rfl, ?_⟩) hHeld ?_
  rotate_left
  · intro w hSw; have s1 := hSw; go_simp; with_reducible rfl
  simp only [Act.put, List.setIfInBounds_toArray, List.set_cons_zero, List.set_cons_succ]
  refine take_at 2 26 (v := ?_) rfl rfl (by kernel_rfl) (by kernel_rfl) (by kernel_rfl) (Or.inl ⟨by rfl, ?_⟩) hHeld ?_
  rotate_left
  · intro w hSw; go_simp; with_reducible rfl
  simp only [Act.put, List.setIfInBounds_toArray, List.set_cons_zero, List.set_cons_succ]
  refine wpAnyH_ready (rs := [3, 4]) (by kernel_rfl) (by simp) ?_
  refine AllReadyH.cons rfl (fun K hK => ?_) (AllReadyH.cons rfl (fun K hK => ?_) AllReadyH.nil)
  · go_simp
    refine (unhide CT2 _ _ (unhide O2)).mono ?_
    rintro e w4 ⟨rfl, hb⟩
    have O3 := hide ((unhide O2).below (unhide HST _ _ _ _) hb)
    clear hb O2
    go_wp2_with fail
    refine hK.out _ _ (unhide HCS _ _ (unhide O3) (by simp)) (fun hNew => ?_)
    clear hHeld
    have hHeld := hNew
    clear hK K hNew
    refine wpAnyH_ready (rs := [4]) (by kernel_rfl) (by simp) ?_
    refine AllReadyH.cons rfl (fun K hK => ?_) AllReadyH.nil
    have O4 := hide ((unhide O3).alloc (unhide HST _ _ _ _) (.cells ZTV 66))
    have HNE := hide (unhide O3).fresh
    refine (if_pos (by rfl)).mpr ?_
    refine im_allocZ 66 rfl ZTV (unhide ZT) ?_
    clear O3
    obtain ⟨g10, hg10⟩ : ∃ g, g = w4.heap.size := ⟨_, rfl⟩
    rw [← hg10] at O4 HNE ⊢
    clear hg10
    generalize w4.alloc (.cells ZTV 66) = w5 at *
    refine hK.out _ _ (unhide HCS _ _ (unhide O4) (by simp)) (fun hNew => ?_)
    clear hHeld
    have hHeld := hNew
    clear hK K hNew
    refine take_at 5 9 (v := ?_) rfl rfl (by kernel_rfl) (by kernel_rfl) (by kernel_rfl) (Or.inl ⟨by rfl, ?_⟩) hHeld ?_
    rotate_left
    · intro w hSw; go_simp; with_reducible rfl
    simp only [Act.put, List.setIfInBounds_toArray, List.set_cons_zero, List.set_cons_succ]
    refine wpAnyH_ready (rs := [6]) (by kernel_rfl) (by simp) ?_
    refine AllReadyH.cons rfl (fun K hK => ?_) AllReadyH.nil
    have KG := (unhide O4).at g10 (.cells ZTV 66) (by simp)
    have O5 := hide ((unhide O4).rowHd (unhide HST _ _ _ _) (unhide HNE) TV)
    refine (if_pos (by rfl)).mpr ?_
    refine wp_store_row 66 (.tmp 10) (.tmp 27) rfl g10 TV rfl rfl _ _ KG s147 (unhide hszt) (unhide XT) ?_
    refine hK.out _ _ (unhide HCS _ _ (unhide O5) (by simp)) (fun hNew => ?_)
    clear hHeld hK K hNew KG O4 HNE CT2 HCS
    generalize w5.setRow g10 TV = w6 at *
    refine wpAnyH_done (by kernel_rfl) ?_ _
    refine NoPanic.normal ?_
    as_aux_lemma =>
      go_wp2_with fail
      go_loopw [9, 30] (fun gq q wr => ∃ j : Nat, j ≤ rs.length ∧ q = .int .i64 j ∧ gq = .int .i64 (grQ sq rs j) ∧ (redP t sq rs S A j).2.2 = 0 ∧ Held W (QSt W (SHas W m b St (redP t sq rs S A j).1 (redP t sq rs S A j).2.1) (RecSt W.heap.size (.slice p rs.length cap) rs)) w wr G [(g10, .cells TV 66), (g5, .cells #[.int .i64 g0, .int .i64 r0, .int .i64 sq, .int .i64 (c : Int)] 49)]) (fun _ q _ => rs.length - (intOf q).toNat)
      case atStart => exact ⟨0, by omega, rfl, by rw [unhide HG0], by rw [unhide H0], by rw [unhide H0]; exact unhide O5⟩
      case round =>
        clear O5
        obtain ⟨j, hj, rfl, rfl, hp, hh⟩ := hrel
        have HH := hide hh
        have HP := hide hp
        clear hh hp
        have hlen' : (rs.length : Int) ≤ 32 := by omega
        by_cases hlt : j < rs.length
        · have hlt' : (j : Int) < (rs.length : Int) := by omega
          obtain ⟨ga, rfl, hrg⟩ := (unhide HH).1.recs.2 j hlt
          have hmr := (mayR_iff _).1 (unhide HMAY (rs.getD j zr) (by rw [List.getD_eq_getElem?_getD, List.getElem?_eq_getElem hlt]; exact List.getElem_mem hlt))
          have hiv := unhide HINU (rs.getD j zr) (by rw [List.getD_eq_getElem?_getD, List.getElem?_eq_getElem hlt]; exact List.getElem_mem hlt)
          have hgn := unhide HGR j
          have hy := fun q => unhide HY j (unhide HP) q
          have hnn := unhide HN j
          have hkk := fun q => unhide HK (j + 1) q
          have hok := unhide HOK j (by omega)
          have hrb : ∀ q, redB t sq (rs.getD j zr) = q ↔ (decide (sq < (rs.getD j zr).q) && decide ((t (rs.getD j zr).d.toNat).k = 1)) = q := fun q => Iff.rfl
          obtain ⟨q1, d1, o1, v1, hr⟩ : ∃ a b c d, rs.getD j zr = ⟨a, b, c, d⟩ := ⟨_, _, _, _, rfl⟩
          rw [hr] at hrg hmr hiv hgn hy hnn hrb
          clear hr
          simp only at hmr hiv hgn hy hnn hrb
          obtain ⟨m1, m2, m3, m4, m5, m6⟩ := hmr
          have RG : Hid (wr.rangeAt ga (j * 4) [.int .i64 q1, .int .i64 d1, .int .i64 o1, .int .u64 v1]) := hrg
          have HGN := hide hgn
          have HYY := hide hy
          have HNN := hide hnn
          have HOKJ := hide hok
          have HRB := hide hrb
          have HIV := hide hiv
          have hbb := unhide HB
          have s4 : (Tryz.prog.info? 126).map (·.size) = some ([.int .i64 q1, .int .i64 d1, .int .i64 o1, .int .u64 v1] : List Value).length := by kernel_rfl
          clear hrg hgn hy hnn hok hrb hiv hkk
          go_upto_region 8 with (with_reducible refine wpList_load_mid (by with_unfolding_all rfl) 126 _ (by with_unfolding_all rfl) ga (j * 4) (by with_unfolding_all rfl) [.int .i64 q1, .int .i64 d1, .int .i64 o1, .int .u64 v1] _ (unhide RG) Tryz.underlying126 (by with_unfolding_all rfl) s4 ?_)
          have O2 := hide ((unhide HH).alloc (unhide HST _ _ _ _) (.cells #[.int .i64 q1, .int .i64 d1, .int .i64 o1, .int .u64 v1] 126))
          obtain ⟨g12, hg⟩ : ∃ g, g = wr.heap.size := ⟨_, rfl⟩
          rw [← hg] at O2 ⊢
          clear RG s4 HH hg
          generalize wr.alloc (.cells #[.int .i64 q1, .int .i64 d1, .int .i64 o1, .int .u64 v1] 126) = w8 at *
          have KR := (unhide O2).at g12 (.cells #[.int .i64 q1, .int .i64 d1, .int .i64 o1, .int .u64 v1] 126) (by simp)
          have r0' : w8.cell? ⟨g12, 0, none⟩ = some (.int .i64 q1) := by rw [cell_of_block KR]; rfl
          go_upto_region 9 with fail
          have s2 : w8.cell? ⟨g5, 2, none⟩ = some (.int .i64 sq) := by rw [cell_of_block ((unhide O2).at g5 (.cells #[.int .i64 g0, .int .i64 r0, .int .i64 sq, .int .i64 (c : Int)] 49) (by simp))]; rfl
          have r1' : w8.cell? ⟨g12, 1, none⟩ = some (.int .i64 d1) := by rw [cell_of_block KR]; rfl
          obtain ⟨dn, rfl⟩ : ∃ dn : Nat, d1 = (dn : Int) := ⟨d1.toNat, by omega⟩
          have d49 : dn < 49 := by omega
          have tk : w8.cell? ⟨g10, dn * 3, none⟩ = some (.int .i64 (t dn).k) := by rw [cell_of_block ((unhide O2).at g10 (.cells TV 66) (by simp))]; exact unhide HTW dn d49
          have hd49 : (dn : Int) < 49 := by omega
          by_cases hq : q1 ≤ sq
          · have hnb : ¬ redB t sq ⟨q1, (dn : Int), o1, v1⟩ = true := fun q => by
              have := (unhide HRB true).1 q
              rw [Bool.and_eq_true, decide_eq_true_iff] at this
              omega
            have HE := hide (unhide HNN hnb)
            clear HYY HNN HRB HOKJ HIV hnb
            go_wp2_with fail
            go_roundw
            case rel => exact ⟨j + 1, by omega, by go_num, by rw [unhide HGN], by rw [unhide HE]; exact unhide HP, by rw [unhide HE]; exact (unhide O2).less (unhide HST _ _ _ _) (fun p hp => List.mem_cons_of_mem _ hp)⟩
            case measure => simp [intOf]; omega
          by_cases hk1 : (t dn).k = 1
          · have hkb : ((t dn).k != 1) = false := by simpa using hk1
            have hnb : redB t sq ⟨q1, (dn : Int), o1, v1⟩ = true := (unhide HRB true).2 (by
              rw [Bool.and_eq_true, decide_eq_true_iff, decide_eq_true_iff]
              exact ⟨by omega, by rw [Int.toNat_natCast]; exact hk1⟩)
            have HE := hide (unhide HYY hnb)
            have hq2 : sq < q1 := by omega
            have CST := hide ((unhide O2).st.via (recSt_loc _ _ _) fun G' h' => set_any (unhide HM).toMemL h' (unhide HOKJ).1 (ok_mono (unhide HOKJ).2.1 (by omega)) (dn : Int) o1 v1 (unhide HIV))
            have r2' : w8.cell? ⟨g12, 2, none⟩ = some (.int .i64 o1) := by rw [cell_of_block KR]; rfl
            have r3' : w8.cell? ⟨g12, 3, none⟩ = some (.int .u64 v1) := by rw [cell_of_block KR]; rfl
            have HSTK := hide (fun q => unhide HK (j + 1) q)
            clear HYY HNN HRB HOKJ HIV hnb hk1 hq
            generalize (t dn).k = kd at *
            have E1 : Hid ((redP t sq rs S A (j + 1)).1 = (redP t sq rs S A j).1.setS (redP t sq rs S A j).2.1 (dn : Int) o1 v1) := by show _ = _; rw [unhide HE]
            have E2 : Hid ((redP t sq rs S A (j + 1)).2.1 = (redP t sq rs S A j).1.setM (redP t sq rs S A j).2.1 (dn : Int) o1 v1) := by show _ = _; rw [unhide HE]
            have E3 : Hid ((redP t sq rs S A (j + 1)).2.2 = (redP t sq rs S A j).1.setE (redP t sq rs S A j).2.1 (dn : Int) o1 v1) := by show _ = _; rw [unhide HE]
            rw [← unhide E1, ← unhide E2, ← unhide E3] at CST
            clear HE E1 E2 E3
            go_wp2_with fail
            refine (unhide CST).mono ?_
            rintro e w9 ⟨rfl, h1, h2⟩
            have O3 := hide ((unhide O2).call (St' := QSt W (SHas W m b St (redP t sq rs S A (j + 1)).1 (redP t sq rs S A (j + 1)).2.1) (RecSt W.heap.size (.slice (some ⟨ga, 0, none⟩) rs.length cap) rs)) h1 h2)
            clear h1 h2 CST O2 r0' r1' r2' r3' s2 tk KR
            by_cases he : (redP t sq rs S A (j + 1)).2.2 = 0
            · have HE := hide he
              rw [he]
              clear he
              go_wp2_with fail
              go_roundw
              case rel => exact ⟨j + 1, by omega, by go_num, by rw [unhide HGN], unhide HE, (unhide O3).less (unhide HST _ _ _ _) (fun p hp => List.mem_cons_of_mem _ hp)⟩
              case measure => simp [intOf]; omega
            · have hb1 : ((redP t sq rs S A (j + 1)).2.2 == 0) = false := by simpa using he
              have hb2 : ((redP t sq rs S A (j + 1)).2.2 != 0) = true := by simpa using he
              have HEQ : Hid (redP t sq rs S A rs.length = ((redP t sq rs S A (j + 1)).1, (redP t sq rs S A (j + 1)).2.1, (redP t sq rs S A (j + 1)).2.2)) := by
                have := unhide HSTK he (rs.length - (j + 1))
                rw [show j + 1 + (rs.length - (j + 1)) = rs.length by omega] at this
                exact this
              have HNZ : Hid ((redP t sq rs S A (j + 1)).2.2 = 0 → (0 : Int) = grQ sq rs rs.length + 1) := fun q => absurd q he
              clear he HSTK
              generalize (redP t sq rs S A (j + 1)).1 = S9 at *
              generalize (redP t sq rs S A (j + 1)).2.1 = A9 at *
              generalize (redP t sq rs S A (j + 1)).2.2 = E9 at *
              go_wp2_with fail
              go_ret2
              exact ReP.of (unhide HM).toMemL (unhide O3) (unhide HEQ) (unhide HNZ)
          · have hkb : ((t dn).k != 1) = true := by simpa using hk1
            have hnb : ¬ redB t sq ⟨q1, (dn : Int), o1, v1⟩ = true := fun q => by
              have := (unhide HRB true).1 q
              rw [Bool.and_eq_true, decide_eq_true_iff, decide_eq_true_iff, Int.toNat_natCast] at this
              exact hk1 this.2
            have HE := hide (unhide HNN hnb)
            have hq2 : sq < q1 := by omega
            clear HYY HNN HRB HOKJ HIV hnb hk1 hq
            generalize (t dn).k = kd at *
            go_wp2_with fail
            go_roundw
            case rel => exact ⟨j + 1, by omega, by go_num, by rw [unhide HGN], by rw [unhide HE]; exact unhide HP, by rw [unhide HE]; exact (unhide O2).less (unhide HST _ _ _ _) (fun p hp => List.mem_cons_of_mem _ hp)⟩
            case measure => simp [intOf]; omega
        · obtain rfl : j = rs.length := by omega
          have HGB : Hid (∀ k, k ≤ rs.length → grQ sq rs k ≤ 1099511627776) := fun k => by
            induction k with
            | zero => intro _; rw [unhide HG0]; exact hsq.2
            | succ k ih =>
              intro hk
              rw [unhide HGR k]
              have h1 := ih (by omega)
              have h2 := (mayR_iff _).1 (unhide HMAY (rs.getD k zr) (by rw [List.getD_eq_getElem?_getD, List.getElem?_eq_getElem (show k < rs.length by omega)]; exact List.getElem_mem _))
              omega
          have HG1 : Hid (∀ k, k ≤ rs.length → 0 ≤ grQ sq rs k) := fun k => by
            induction k with
            | zero => intro _; rw [unhide HG0]; exact hsq.1
            | succ k ih =>
              intro hk
              rw [unhide HGR k]
              have h1 := ih (by omega)
              omega
          have b1 := unhide HGB rs.length (Nat.le_refl _)
          have b2 := unhide HG1 rs.length (Nat.le_refl _)
          have HEQ : Hid (redP t sq rs S A rs.length = ((redP t sq rs S A rs.length).1, (redP t sq rs S A rs.length).2.1, 0)) := by
            show _ = _
            rw [← unhide HP]
          have HNZ : Hid ((0 : Int) = 0 → grQ sq rs rs.length + 1 = grQ sq rs rs.length + 1) := fun _ => rfl
          clear HGB HG1 HK HY HN HOK H0 HG0 HGR HP
          obtain ⟨gq, hgq⟩ : ∃ gq, gq = grQ sq rs rs.length := ⟨_, rfl⟩
          rw [← hgq] at b1 b2 ⊢
          have HGQ := hide hgq
          clear hgq
          go_wp2_with fail
          go_ret2
          refine ReP.of (unhide HM).toMemL (unhide HH) (unhide HEQ) (fun _ => ?_)
          rw [unhide HGQ]
  · have O3 := hide ((unhide O2).alloc (unhide HST _ _ _ _) (.cells ZTV 66))
    have HNE := hide (unhide O2).fresh
    refine (if_pos (by rfl)).mpr ?_
    refine im_allocZ 66 rfl ZTV (unhide ZT) ?_
    clear O2
    obtain ⟨g10, hg10⟩ : ∃ g, g = w3.heap.size := ⟨_, rfl⟩
    rw [← hg10] at O3 HNE ⊢
    clear hg10
    generalize w3.alloc (.cells ZTV 66) = w4 at *
    refine hK.out _ _ (unhide HCS _ _ (unhide O3) (by simp)) (fun hNew => ?_)
    clear hHeld
    have hHeld := hNew
    clear hK K hNew
    refine wpAnyH_ready (rs := [3]) (by kernel_rfl) (by simp) ?_
    refine AllReadyH.cons rfl (fun K hK => ?_) AllReadyH.nil
    go_simp
    refine (unhide CT2 _ _ (unhide O3)).mono ?_
    rintro e w5 ⟨rfl, hb⟩
    have O4 := hide ((unhide O3).below (unhide HST _ _ _ _) hb)
    clear hb O3
    go_wp2_with fail
    refine hK.out _ _ (unhide HCS _ _ (unhide O4) (by simp)) (fun hNew => ?_)
    clear hHeld
    have hHeld := hNew
    clear hK K hNew
    refine take_at 5 9 (v := ?_) rfl rfl (by kernel_rfl) (by kernel_rfl) (by kernel_rfl) (Or.inl ⟨by rfl, ?_⟩) hHeld ?_
    rotate_left
    · intro w hSw; go_simp; with_reducible rfl
    simp only [Act.put, List.setIfInBounds_toArray, List.set_cons_zero, List.set_cons_succ]
    refine wpAnyH_ready (rs := [6]) (by kernel_rfl) (by simp) ?_
    refine AllReadyH.cons rfl (fun K hK => ?_) AllReadyH.nil
    have KG := (unhide O4).at g10 (.cells ZTV 66) (by simp)
    have O5 := hide ((unhide O4).rowHd (unhide HST _ _ _ _) (unhide HNE) TV)
    refine (if_pos (by rfl)).mpr ?_
    refine wp_store_row 66 (.tmp 10) (.tmp 27) rfl g10 TV rfl rfl _ _ KG s147 (unhide hszt) (unhide XT) ?_
    refine hK.out _ _ (unhide HCS _ _ (unhide O5) (by simp)) (fun hNew => ?_)
    clear hHeld hK K hNew KG O4 HNE CT2 HCS
    generalize w5.setRow g10 TV = w6 at *
    refine wpAnyH_done (by kernel_rfl) ?_ _
    refine NoPanic.normal ?_
    as_aux_lemma =>
      go_wp2_with fail
      go_loopw [9, 30] (fun gq q wr => ∃ j : Nat, j ≤ rs.length ∧ q = .int .i64 j ∧ gq = .int .i64 (grQ sq rs j) ∧ (redP t sq rs S A j).2.2 = 0 ∧ Held W (QSt W (SHas W m b St (redP t sq rs S A j).1 (redP t sq rs S A j).2.1) (RecSt W.heap.size (.slice p rs.length cap) rs)) w wr G [(g10, .cells TV 66), (g5, .cells #[.int .i64 g0, .int .i64 r0, .int .i64 sq, .int .i64 (c : Int)] 49)]) (fun _ q _ => rs.length - (intOf q).toNat)
      case atStart => exact ⟨0, by omega, rfl, by rw [unhide HG0], by rw [unhide H0], by rw [unhide H0]; exact unhide O5⟩
      case round =>
        clear O5
        obtain ⟨j, hj, rfl, rfl, hp, hh⟩ := hrel
        have HH := hide hh
        have HP := hide hp
        clear hh hp
        have hlen' : (rs.length : Int) ≤ 32 := by omega
        by_cases hlt : j < rs.length
        · have hlt' : (j : Int) < (rs.length : Int) := by omega
          obtain ⟨ga, rfl, hrg⟩ := (unhide HH).1.recs.2 j hlt
          have hmr := (mayR_iff _).1 (unhide HMAY (rs.getD j zr) (by rw [List.getD_eq_getElem?_getD, List.getElem?_eq_getElem hlt]; exact List.getElem_mem hlt))
          have hiv := unhide HINU (rs.getD j zr) (by rw [List.getD_eq_getElem?_getD, List.getElem?_eq_getElem hlt]; exact List.getElem_mem hlt)
          have hgn := unhide HGR j
          have hy := fun q => unhide HY j (unhide HP) q
          have hnn := unhide HN j
          have hkk := fun q => unhide HK (j + 1) q
          have hok := unhide HOK j (by omega)
          have hrb : ∀ q, redB t sq (rs.getD j zr) = q ↔ (decide (sq < (rs.getD j zr).q) && decide ((t (rs.getD j zr).d.toNat).k = 1)) = q := fun q => Iff.rfl
          obtain ⟨q1, d1, o1, v1, hr⟩ : ∃ a b c d, rs.getD j zr = ⟨a, b, c, d⟩ := ⟨_, _, _, _, rfl⟩
          rw [hr] at hrg hmr hiv hgn hy hnn hrb
          clear hr
          simp only at hmr hiv hgn hy hnn hrb
          obtain ⟨m1, m2, m3, m4, m5, m6⟩ := hmr
          have RG : Hid (wr.rangeAt ga (j * 4) [.int .i64 q1, .int .i64 d1, .int .i64 o1, .int .u64 v1]) := hrg
          have HGN := hide hgn
          have HYY := hide hy
          have HNN := hide hnn
          have HOKJ := hide hok
          have HRB := hide hrb
          have HIV := hide hiv
          have hbb := unhide HB
          have s4 : (Tryz.prog.info? 126).map (·.size) = some ([.int .i64 q1, .int .i64 d1, .int .i64 o1, .int .u64 v1] : List Value).length := by kernel_rfl
          clear hrg hgn hy hnn hok hrb hiv hkk
          go_upto_region 8 with (with_reducible refine wpList_load_mid (by with_unfolding_all rfl) 126 _ (by with_unfolding_all rfl) ga (j * 4) (by with_unfolding_all rfl) [.int .i64 q1, .int .i64 d1, .int .i64 o1, .int .u64 v1] _ (unhide RG) Tryz.underlying126 (by with_unfolding_all rfl) s4 ?_)
          have O2 := hide ((unhide HH).alloc (unhide HST _ _ _ _) (.cells #[.int .i64 q1, .int .i64 d1, .int .i64 o1, .int .u64 v1] 126))
          obtain ⟨g12, hg⟩ : ∃ g, g = wr.heap.size := ⟨_, rfl⟩
          rw [← hg] at O2 ⊢
          clear RG s4 HH hg
          generalize wr.alloc (.cells #[.int .i64 q1, .int .i64 d1, .int .i64 o1, .int .u64 v1] 126) = w8 at *
          have KR := (unhide O2).at g12 (.cells #[.int .i64 q1, .int .i64 d1, .int .i64 o1, .int .u64 v1] 126) (by simp)
          have r0' : w8.cell? ⟨g12, 0, none⟩ = some (.int .i64 q1) := by rw [cell_of_block KR]; rfl
          go_upto_region 9 with fail
          have s2 : w8.cell? ⟨g5, 2, none⟩ = some (.int .i64 sq) := by rw [cell_of_block ((unhide O2).at g5 (.cells #[.int .i64 g0, .int .i64 r0, .int .i64 sq, .int .i64 (c : Int)] 49) (by simp))]; rfl
          have r1' : w8.cell? ⟨g12, 1, none⟩ = some (.int .i64 d1) := by rw [cell_of_block KR]; rfl
          obtain ⟨dn, rfl⟩ : ∃ dn : Nat, d1 = (dn : Int) := ⟨d1.toNat, by omega⟩
          have d49 : dn < 49 := by omega
          have tk : w8.cell? ⟨g10, dn * 3, none⟩ = some (.int .i64 (t dn).k) := by rw [cell_of_block ((unhide O2).at g10 (.cells TV 66) (by simp))]; exact unhide HTW dn d49
          have hd49 : (dn : Int) < 49 := by omega
          by_cases hq : q1 ≤ sq
          · have hnb : ¬ redB t sq ⟨q1, (dn : Int), o1, v1⟩ = true := fun q => by
              have := (unhide HRB true).1 q
              rw [Bool.and_eq_true, decide_eq_true_iff] at this
              omega
            have HE := hide (unhide HNN hnb)
            clear HYY HNN HRB HOKJ HIV hnb
            go_wp2_with fail
            go_roundw
            case rel => exact ⟨j + 1, by omega, by go_num, by rw [unhide HGN], by rw [unhide HE]; exact unhide HP, by rw [unhide HE]; exact (unhide O2).less (unhide HST _ _ _ _) (fun p hp => List.mem_cons_of_mem _ hp)⟩
            case measure => simp [intOf]; omega
          by_cases hk1 : (t dn).k = 1
          · have hkb : ((t dn).k != 1) = false := by simpa using hk1
            have hnb : redB t sq ⟨q1, (dn : Int), o1, v1⟩ = true := (unhide HRB true).2 (by
              rw [Bool.and_eq_true, decide_eq_true_iff, decide_eq_true_iff]
              exact ⟨by omega, by rw [Int.toNat_natCast]; exact hk1⟩)
            have HE := hide (unhide HYY hnb)
            have hq2 : sq < q1 := by omega
            have CST := hide ((unhide O2).st.via (recSt_loc _ _ _) fun G' h' => set_any (unhide HM).toMemL h' (unhide HOKJ).1 (ok_mono (unhide HOKJ).2.1 (by omega)) (dn : Int) o1 v1 (unhide HIV))
            have r2' : w8.cell? ⟨g12, 2, none⟩ = some (.int .i64 o1) := by rw [cell_of_block KR]; rfl
            have r3' : w8.cell? ⟨g12, 3, none⟩ = some (.int .u64 v1) := by rw [cell_of_block KR]; rfl
            have HSTK := hide (fun q => unhide HK (j + 1) q)
            clear HYY HNN HRB HOKJ HIV hnb hk1 hq
            generalize (t dn).k = kd at *
            have E1 : Hid ((redP t sq rs S A (j + 1)).1 = (redP t sq rs S A j).1.setS (redP t sq rs S A j).2.1 (dn : Int) o1 v1) := by show _ = _; rw [unhide HE]
            have E2 : Hid ((redP t sq rs S A (j + 1)).2.1 = (redP t sq rs S A j).1.setM (redP t sq rs S A j).2.1 (dn : Int) o1 v1) := by show _ = _; rw [unhide HE]
            have E3 : Hid ((redP t sq rs S A (j + 1)).2.2 = (redP t sq rs S A j).1.setE (redP t sq rs S A j).2.1 (dn : Int) o1 v1) := by show _ = _; rw [unhide HE]
            rw [← unhide E1, ← unhide E2, ← unhide E3] at CST
            clear HE E1 E2 E3
            go_wp2_with fail
            refine (unhide CST).mono ?_
            rintro e w9 ⟨rfl, h1, h2⟩
            have O3 := hide ((unhide O2).call (St' := QSt W (SHas W m b St (redP t sq rs S A (j + 1)).1 (redP t sq rs S A (j + 1)).2.1) (RecSt W.heap.size (.slice (some ⟨ga, 0, none⟩) rs.length cap) rs)) h1 h2)
            clear h1 h2 CST O2 r0' r1' r2' r3' s2 tk KR
            by_cases he : (redP t sq rs S A (j + 1)).2.2 = 0
            · have HE := hide he
              rw [he]
              clear he
              go_wp2_with fail
              go_roundw
              case rel => exact ⟨j + 1, by omega, by go_num, by rw [unhide HGN], unhide HE, (unhide O3).less (unhide HST _ _ _ _) (fun p hp => List.mem_cons_of_mem _ hp)⟩
              case measure => simp [intOf]; omega
            · have hb1 : ((redP t sq rs S A (j + 1)).2.2 == 0) = false := by simpa using he
              have hb2 : ((redP t sq rs S A (j + 1)).2.2 != 0) = true := by simpa using he
              have HEQ : Hid (redP t sq rs S A rs.length = ((redP t sq rs S A (j + 1)).1, (redP t sq rs S A (j + 1)).2.1, (redP t sq rs S A (j + 1)).2.2)) := by
                have := unhide HSTK he (rs.length - (j + 1))
                rw [show j + 1 + (rs.length - (j + 1)) = rs.length by omega] at this
                exact this
              have HNZ : Hid ((redP t sq rs S A (j + 1)).2.2 = 0 → (0 : Int) = grQ sq rs rs.length + 1) := fun q => absurd q he
              clear he HSTK
              generalize (redP t sq rs S A (j + 1)).1 = S9 at *
              generalize (redP t sq rs S A (j + 1)).2.1 = A9 at *
              generalize (redP t sq rs S A (j + 1)).2.2 = E9 at *
              go_wp2_with fail
              go_ret2
              exact ReP.of (unhide HM).toMemL (unhide O3) (unhide HEQ) (unhide HNZ)
          · have hkb : ((t dn).k != 1) = true := by simpa using hk1
            have hnb : ¬ redB t sq ⟨q1, (dn : Int), o1, v1⟩ = true := fun q => by
              have := (unhide HRB true).1 q
              rw [Bool.and_eq_true, decide_eq_true_iff, decide_eq_true_iff, Int.toNat_natCast] at this
              exact hk1 this.2
            have HE := hide (unhide HNN hnb)
            have hq2 : sq < q1 := by omega
            clear HYY HNN HRB HOKJ HIV hnb hk1 hq
            generalize (t dn).k = kd at *
            go_wp2_with fail
            go_roundw
            case rel => exact ⟨j + 1, by omega, by go_num, by rw [unhide HGN], by rw [unhide HE]; exact unhide HP, by rw [unhide HE]; exact (unhide O2).less (unhide HST _ _ _ _) (fun p hp => List.mem_cons_of_mem _ hp)⟩
            case measure => simp [intOf]; omega
        · obtain rfl : j = rs.length := by omega
          have HGB : Hid (∀ k, k ≤ rs.length → grQ sq rs k ≤ 1099511627776) := fun k => by
            induction k with
            | zero => intro _; rw [unhide HG0]; exact hsq.2
            | succ k ih =>
              intro hk
              rw [unhide HGR k]
              have h1 := ih (by omega)
              have h2 := (mayR_iff _).1 (unhide HMAY (rs.getD k zr) (by rw [List.getD_eq_getElem?_getD, List.getElem?_eq_getElem (show k < rs.length by omega)]; exact List.getElem_mem _))
              omega
          have HG1 : Hid (∀ k, k ≤ rs.length → 0 ≤ grQ sq rs k) := fun k => by
            induction k with
            | zero => intro _; rw [unhide HG0]; exact hsq.1
            | succ k ih =>
              intro hk
              rw [unhide HGR k]
              have h1 := ih (by omega)
              omega
          have b1 := unhide HGB rs.length (Nat.le_refl _)
          have b2 := unhide HG1 rs.length (Nat.le_refl _)
          have HEQ : Hid (redP t sq rs S A rs.length = ((redP t sq rs S A rs.length).1, (redP t sq rs S A rs.length).2.1, 0)) := by
            show _ = _
            rw [← unhide HP]
          have HNZ : Hid ((0 : Int) = 0 → grQ sq rs rs.length + 1 = grQ sq rs rs.length + 1) := fun _ => rfl
          clear HGB HG1 HK HY HN HOK H0 HG0 HGR HP
          obtain ⟨gq, hgq⟩ : ∃ gq, gq = grQ sq rs rs.length := ⟨_, rfl⟩
          rw [← hgq] at b1 b2 ⊢
          have HGQ := hide hgq
          clear hgq
          go_wp2_with fail
          go_ret2
          refine ReP.of (unhide HM).toMemL (unhide HH) (unhide HEQ) (fun _ => ?_)
          rw [unhide HGQ]

end Go.Proofs.YtiafhcgaikapcaaGreat
