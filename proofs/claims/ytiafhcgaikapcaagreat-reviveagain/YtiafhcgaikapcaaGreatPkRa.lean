import Derived.Test.YtiafhcgaikapcaaGreatICalls
import Derived.Test.YtiafhcgaikapcaaGreatIRedo
import Derived.Test.YtiafhcgaikapcaaGreatPkScan
import Derived.Test.YtiafhcgaikapcaaGreatPkCh
import Derived.Test.YtiafhcgaikapcaaGreatPkTel
import Derived.Test.YtiafhcgaikapcaaGreatPkShow
import Derived.Test.YtiafhcgaikapcaaGreatIRead
import Derived.Test.YtiafhcgaikapcaaGreatIForm
import Derived.Test.YtiafhcgaikapcaaGreatPkRlog

/-
  revive's redo: what was journalled is done again, record by record.
-/
namespace Go.Proofs.YtiafhcgaikapcaaGreat
open Go.ChangeShapes Go.WideShapes Go.ChangeAt Go.RowKit Go.Joins
set_option maxRecDepth 10000
set_option linter.unusedVariables false
set_option linter.unusedSimpArgs false

theorem SHas.scan {W w : World} {m b : Nat} {St : Mm → World → (Nat → Prop) → Prop} {S : Sto} {A : Mm} {G : Nat → Prop} (M : MemI W m St) (h : SHas W m b St S A w G) (hA : A.ok 1000) (z : Int) :
    Calls Tryz.prog 168 #[.pointer (some ⟨m, 0, none⟩), .int .i64 z] w (ScanI W w (SHas W m b St S A) G (A.scanV z) (A.scanE z)) :=
  (M.scan w _ A h.st hA z).mono fun e w' ⟨v, he, ⟨C, h1, h2, h3, h4⟩, hs⟩ => ⟨v, he, ⟨C, ⟨by
    have := h.rep
    unfold SRep Blk at this ⊢
    rw [hs b (Or.inr rfl)]; exact this, (M.stay A).ls _ _ _ h1 (fun k hk => by
      rcases hk with (hk | hk) | hk
      · exact Or.inl (Or.inl hk)
      · exact Or.inr hk
      · exact Or.inl (Or.inr hk)), fun hk => by
      rcases hk with hk | hk
      · exact h.nb hk
      · exact h3 b (Or.inr rfl) hk, h.new⟩, h2, fun k hk => h3 k (Or.inl hk), h4⟩, fun k hk => hs k (Or.inl hk)⟩
theorem sort_mem : ∀ (l : List Rc) (r : Rc), r ∈ sortR l → r ∈ l := by
  have key : ∀ (l out : List Rc) (r : Rc), r ∈ l.foldl insR out → r ∈ out ∨ r ∈ l := fun l => by
    induction l with
    | nil => intro out r h; exact Or.inl h
    | cons x l ih =>
      intro out r h
      rcases ih (insR out x) r h with q | q
      · unfold insR at q
        rw [List.mem_append, List.mem_cons] at q
        rcases q with q | q | q
        · exact Or.inl (List.mem_of_mem_take q)
        · exact Or.inr (by rw [q]; exact List.mem_cons_self)
        · exact Or.inl (List.mem_of_mem_drop q)
      · exact Or.inr (List.mem_cons_of_mem _ q)
  intro l r h
  rcases key l [] r h with q | q
  · cases q
  · exact q
theorem sort_len (l : List Rc) : (sortR l).length = l.length := by
  have key : ∀ (l out : List Rc), (l.foldl insR out).length = out.length + l.length := fun l => by
    induction l with
    | nil => intro out; rfl
    | cons x l ih =>
      intro out
      show (l.foldl insR (insR out x)).length = _
      rw [ih]
      unfold insR
      simp only [List.length_append, List.length_cons, List.length_take, List.length_drop]
      omega
  have := key l []
  simpa [sortR] using this
theorem Mm.rs_may (A : Mm) : ∀ r ∈ A.rs, mayR r = true := fun r hr => by
  unfold Mm.rs Mm.scanV at hr
  split at hr
  · exact recs_may A _ r (sort_mem _ r hr)
  · cases hr
theorem Mm.rs_len (A : Mm) (h : A.cs ≤ 8) : A.rs.length ≤ 32 := by
  unfold Mm.rs Mm.scanV
  split
  · rw [sort_len]
    have := recs_len A (4 * A.cs.toNat)
    omega
  · exact Nat.zero_le _
theorem readRV_in {l : List Int} (hw : ∀ z ∈ l, (Lit.int .u64 z).wf = true) : InU (readRV l).v := readRV_ok l hw
theorem recs_inU {A : Mm} {B : Nat} (h : A.ok B) : ∀ j, ∀ r ∈ A.recs j, InU r.v
  | 0, r, hr => by cases hr
  | j + 1, r, hr => by
    unfold Mm.recs recAt at hr
    rcases List.mem_append.1 hr with q | q
    · exact recs_inU h j r q
    · split at q
      · rw [List.mem_singleton] at q
        rw [q]; exact readRV_in (rowN_wf h _)
      · cases q
theorem Mm.rs_inU {A : Mm} {B : Nat} (h : A.ok B) : ∀ r ∈ A.rs, InU r.v := fun r hr => by
  unfold Mm.rs Mm.scanV at hr
  split at hr
  · exact recs_inU h _ r (sort_mem _ r hr)
  · cases hr
/-- Behind a redo: the next number, or an error. -/
def ReP (W : World) (m b : Nat) (St : Mm → World → (Nat → Prop) → Prop) (P : Sto × Mm × Int) (N : Int) (w : World) (G : Nat → Prop) (e : Ending) (w' : World) : Prop :=
  ∃ z, e = .returned (.tuple #[.int .i64 z, .int .i64 P.2.2]) ∧ (P.2.2 = 0 → z = N) ∧ SHas W m b St P.1 P.2.1 w' G ∧ Same G w w'
theorem im_allocZ {P : Program} {o : Oper} {a : Act} {w : World} {K : Act → World → Prop} {Q : Exit → Act → World → Prop} (t : TypeId) (ho : o.op = .alloc t) (z : Array Value) (hz : (P.info? t).map (·.zero) = some (some (.agg z)))
    (h : K (a.put o.dst (.pointer (some ⟨w.heap.size, 0, none⟩))) (w.alloc (.cells z t))) : o.wp P a w K Q := by
  cases hi : P.info? t with
  | none => rw [hi] at hz; cases hz
  | some i =>
    rw [hi] at hz
    have hz' : i.zero = some (.agg z) := by simpa using hz
    have hr : (zeroValue t).run P w = .ok (.agg z) w := by
      unfold zeroValue
      have ht : (typeInfo t).run P w = .ok i w := by
        unfold typeInfo
        simp [go_sem, hi]
      rw [Sem.run_bind, ht]
      simp [hz']
    have hb : Oper.wp P o a w K Q = K (a.put o.dst (.pointer (some ⟨w.heap.size, 0, none⟩))) (w.alloc (.cells z t)) := by
      unfold Oper.wp execOp
      simp [ho, go_sem, hr]
    rw [hb]; exact h
theorem zero_tabA : (Tryz.prog.info? 66).map (·.zero) = some (some (.agg (tabV fun _ => ze))) := by kernel_rfl
theorem QSt.recs {W w : World} {St : World → (Nat → Prop) → Prop} {base n cap : Nat} {p : Option Addr} {rs : List Rc} {G : Nat → Prop} (h : QSt W St (RecSt base (.slice p n cap) rs) w G) : n = rs.length ∧ ∀ i, i < rs.length → ∃ g, p = some ⟨g, 0, none⟩ ∧ w.rangeAt g (i * 4) (rv (rs.getD i zr)).toList := by
  obtain ⟨C, _, ⟨_, h2⟩, _⟩ := h
  obtain ⟨p', cap', e, h3⟩ := owns_open h2
  obtain ⟨rfl, rfl, rfl⟩ := Value.slice.inj e
  exact ⟨rfl, fun i hi => by obtain ⟨g, e1, _, e3⟩ := h3 i hi; exact ⟨g, e1, e3⟩⟩
theorem QSt.form {W w : World} {St : World → (Nat → Prop) → Prop} {base : Nat} {v : Value} {rs : List Rc} {G : Nat → Prop} (h : QSt W St (RecSt base v rs) w G) : ∃ p cap, v = .slice p rs.length cap := by
  obtain ⟨C, _, ⟨_, h2⟩, _⟩ := h
  obtain ⟨p', cap', e, _⟩ := owns_open h2
  exact ⟨p', cap', e⟩
theorem ReP.of {W w0 w' : World} {m b : Nat} {St : Mm → World → (Nat → Prop) → Prop} {P : Sto × Mm × Int} {S : Sto} {A : Mm} {E N z : Int} {G : Nat → Prop} {L : List (Nat × Obj)} {R : World → (Nat → Prop) → Prop} (M : MemL W m St) (h : Held W (QSt W (SHas W m b St S A) R) w0 w' G L) (hP : P = (S, A, E)) (hz : E = 0 → z = N) :
    ReP W m b St P N w0 G (.returned (.tuple #[.int .i64 z, .int .i64 E])) w' := by
  subst hP
  exact ⟨z, rfl, hz, (SHas.stay M b S A).ls _ _ _ (QSt.drop (SHas.stay M b S A) h.1) (fun k hk => Or.inl hk), h.2.2⟩

set_option maxHeartbeats 16000000 in
theorem imredo_any {W w : World} {m b : Nat} {St : Mm → World → (Nat → Prop) → Prop} {S : Sto} {A : Mm} {G : Nat → Prop} (M : MemI W m St) (h : SHas W m b St S A w G) (hS : S.ok) (B : Nat) (hA : A.ok B) (hB : B + 8 * A.rs.length ≤ 800) (hon : A.on = true) (c : Nat) (hc : A.cs = (c : Int)) (c1 : 1 ≤ c) (c8 : c ≤ 8) (g0 r0 : Int) (hsq : 0 ≤ A.sq ∧ A.sq ≤ 1099511627776) :
    Calls Tryz.prog 117 #[.pointer (some ⟨m, 0, none⟩), .pointer (some ⟨b, 0, none⟩), .agg #[.int .i64 g0, .int .i64 r0, .int .i64 A.sq, .int .i64 (c : Int)]] w (ReP W m b St (redP S.w A.sq A.rs S A A.rs.length) (grQ A.sq A.rs A.rs.length + 1) w G) := by
  have HM := hide M
  have T0 := hide (SHas.stay M.toMemL b S A)
  have O0 := hide ((Held.start (unhide T0) h).alloc (unhide T0) (.cells #[.int .i64 g0, .int .i64 r0, .int .i64 A.sq, .int .i64 (c : Int)] 49))
  have hscE : A.scanE (c : Int) = 0 := by unfold Mm.scanE; rw [if_pos ⟨by omega, by omega⟩, if_pos hon]
  have hscV : A.scanV (c : Int) = A.rs := by unfold Mm.rs; rw [hc]
  have CS := hide (fun (w' : World) (G' : Nat → Prop) (h' : SHas W m b St S A w' G') => h'.scan M (ok_mono hA (by omega)) (c : Int))
  rw [hscE, hscV] at CS
  have hlen : A.rs.length ≤ 32 := A.rs_len (by omega)
  have HMAY := hide A.rs_may
  have HINU := hide (Mm.rs_inU hA)
  have HST : Hid (∀ (S : Sto) (A : Mm) v rs, Stay W (QSt W (SHas W m b St S A) (RecSt W.heap.size v rs))) := fun S A v rs => QSt.stay (SHas.stay M.toMemL b S A) (recSt_loc _ _ _)
  have HOK := hide (fun j hj => redP_ok (t := S.w) (q := A.sq) (Mm.rs_inU hA) hS hA j hj)
  have HY := hide (fun (j : Nat) (h1 : (redP S.w A.sq A.rs S A j).2.2 = 0) h2 => redP_yes h1 h2)
  have HN := hide (fun (j : Nat) h2 => redP_not (t := S.w) (q := A.sq) (rs := A.rs) (S := S) (A := A) (j := j) h2)
  have HK := hide (fun (j : Nat) (h1 : (redP S.w A.sq A.rs S A j).2.2 ≠ 0) => redP_stuck h1)
  have H0 : Hid (redP S.w A.sq A.rs S A 0 = (S, A, 0)) := rfl
  have HGR : Hid (∀ j, grQ A.sq A.rs (j + 1) = max (grQ A.sq A.rs j) (A.rs.getD j zr).q) := fun _ => rfl
  have HG0 : Hid (grQ A.sq A.rs 0 = A.sq) := rfl
  have HB : Hid (B + 8 * A.rs.length ≤ 800) := hB
  have HTW : Hid (∀ d : Nat, d < 49 → (tabV S.w)[d * 3]? = some (.int .i64 (S.w d).k)) := fun d hd => by rw [tabV_cell _ _ (by omega), fl3_0]
  have s147 := s147_tab S.w
  have hszt : Hid ((tabV fun _ => ze).size = (tabV S.w).size) := by show _ = _; rw [tabV_size, tabV_size]
  have ZT := hide zero_tabA
  have XT := hide (tabV_one S.w)
  have CT := hide (fun (w' : World) (C : Nat → Prop) (h' : SHas W m b St S A w' C) => table_obj h'.rep)
  clear h hA hB hon hc hscE hscV
  generalize (tabV fun _ => ze) = ZTV at *
  generalize hTV : tabV S.w = TV at *
  clear hTV
  obtain ⟨t, ht⟩ : ∃ t, t = S.w := ⟨_, rfl⟩
  rw [← ht] at HY HN HK H0 HOK HTW ⊢
  clear ht
  generalize A.sq = sq at *
  generalize A.rs = rs at *
  obtain ⟨g5, hg5⟩ : ∃ g, g = w.heap.size := ⟨_, rfl⟩
  rw [← hg5] at O0
  go_enter Tryz.func117, Tryz.ntmps117
  go_upto_region 1 with fail
  rw [← hg5]
  clear hg5
  generalize w.alloc (.cells #[.int .i64 g0, .int .i64 r0, .int .i64 sq, .int .i64 (c : Int)] 49) = w1 at *
  have k3 : w1.cell? ⟨g5, 3, none⟩ = some (.int .i64 (c : Int)) := by rw [cell_of_block ((unhide O0).at g5 (.cells #[.int .i64 g0, .int .i64 r0, .int .i64 sq, .int .i64 (c : Int)] 49) (by simp))]; rfl
  go_wp2_with fail
  refine (unhide CS _ _ (unhide O0).st).mono ?_
  rintro e w2 ⟨v, rfl, h1, h2⟩
  obtain ⟨p, cap, rfl⟩ := h1.form
  have O1 := hide ((unhide O0).call (St' := QSt W (SHas W m b St S A) (RecSt W.heap.size (.slice p rs.length cap) rs)) h1 h2)
  clear h1 h2 CS O0 k3 T0
  go_upto_region 4 with fail
  have O2 := hide ((unhide O1).drew (unhide HST _ _ _ _))
  clear O1
  have HCS : Hid (∀ (w' : World) L, Held W (QSt W (SHas W m b St S A) (RecSt W.heap.size (.slice p rs.length cap) rs)) w w' G L → (g5, Obj.cells #[.int .i64 g0, .int .i64 r0, .int .i64 sq, .int .i64 (c : Int)] 49 (0, 0)) ∈ L → w'.cell? ⟨g5, 2, none⟩ = some (.int .i64 sq)) := fun w' L h hm => by rw [cell_of_block (h.at g5 _ hm)]; rfl
  have CT2 : Hid (∀ (w' : World) L, Held W (QSt W (SHas W m b St S A) (RecSt W.heap.size (.slice p rs.length cap) rs)) w w' G L → Calls Tryz.prog 39 #[.pointer (some ⟨b, 0, none⟩)] w' fun e w'' => e = .returned (.agg TV) ∧ Below w'.heap.size w' w'') := fun w' L h => by
    obtain ⟨C, hC, _⟩ := h.1
    exact unhide CT w' _ hC
  clear CT
  have k2 := unhide HCS _ _ (unhide O2) (by simp)
  refine wp_region_noPanic ?_
  refine wp_region_held_drew (S := fun w' => w'.cell? ⟨g5, 2, none⟩ = some (.int .i64 sq)) (by kernel_rfl) k2 (fun hHeld => ?_)
  clear k2
  generalize w2.drew = w3 at *
  refine take_at 0 24 (v := ?_) rfl rfl (by kernel_rfl) (by kernel_rfl) (by kernel_rfl) (Or.inl ⟨by rfl, ?_⟩) hHeld ?_
  rotate_left
  · intro w hSw; go_simp; with_reducible rfl
  simp only [Act.put, List.setIfInBounds_toArray, List.set_cons_zero, List.set_cons_succ]
  refine take_at 1 25 (v := ?_) rfl rfl (by kernel_rfl) (by kernel_rfl) (by kernel_rfl) (Or.inl ⟨by rfl, ?_⟩) hHeld ?_
  rotate_left
  · intro w hSw; have s1 := hSw; go_simp; with_reducible rfl
  simp only [Act.put, List.setIfInBounds_toArray, List.set_cons_zero, List.set_cons_succ]
  refine take_at 2 26 (v := ?_) rfl rfl (by kernel_rfl) (by kernel_rfl) (by kernel_rfl) (Or.inl ⟨by rfl, ?_⟩) hHeld ?_
  rotate_left
  · intro w hSw; go_simp; with_reducible rfl
  simp only [Act.put, List.setIfInBounds_toArray, List.set_cons_zero, List.set_cons_succ]
  refine wpAnyH_ready (rs := [3, 4]) (by kernel_rfl) (by simp) ?_
  refine AllReadyH.cons rfl (fun K hK => ?_) (AllReadyH.cons rfl (fun K hK => ?_) AllReadyH.nil)
  · go_simp
    refine (unhide CT2 _ _ (unhide O2)).mono ?_
    rintro e w4 ⟨rfl, hb⟩
    have O3 := hide ((unhide O2).below (unhide HST _ _ _ _) hb)
    clear hb O2
    go_wp2_with fail
    refine hK.out _ _ (unhide HCS _ _ (unhide O3) (by simp)) (fun hNew => ?_)
    clear hHeld
    have hHeld := hNew
    clear hK K hNew
    refine wpAnyH_ready (rs := [4]) (by kernel_rfl) (by simp) ?_
    refine AllReadyH.cons rfl (fun K hK => ?_) AllReadyH.nil
    have O4 := hide ((unhide O3).alloc (unhide HST _ _ _ _) (.cells ZTV 66))
    have HNE := hide (unhide O3).fresh
    refine (if_pos (by rfl)).mpr ?_
    refine im_allocZ 66 rfl ZTV (unhide ZT) ?_
    clear O3
    obtain ⟨g10, hg10⟩ : ∃ g, g = w4.heap.size := ⟨_, rfl⟩
    rw [← hg10] at O4 HNE ⊢
    clear hg10
    generalize w4.alloc (.cells ZTV 66) = w5 at *
    refine hK.out _ _ (unhide HCS _ _ (unhide O4) (by simp)) (fun hNew => ?_)
    clear hHeld
    have hHeld := hNew
    clear hK K hNew
    refine take_at 5 9 (v := ?_) rfl rfl (by kernel_rfl) (by kernel_rfl) (by kernel_rfl) (Or.inl ⟨by rfl, ?_⟩) hHeld ?_
    rotate_left
    · intro w hSw; go_simp; with_reducible rfl
    simp only [Act.put, List.setIfInBounds_toArray, List.set_cons_zero, List.set_cons_succ]
    refine wpAnyH_ready (rs := [6]) (by kernel_rfl) (by simp) ?_
    refine AllReadyH.cons rfl (fun K hK => ?_) AllReadyH.nil
    have KG := (unhide O4).at g10 (.cells ZTV 66) (by simp)
    have O5 := hide ((unhide O4).rowHd (unhide HST _ _ _ _) (unhide HNE) TV)
    refine (if_pos (by rfl)).mpr ?_
    refine wp_store_row 66 (.tmp 10) (.tmp 27) rfl g10 TV rfl rfl _ _ KG s147 (unhide hszt) (unhide XT) ?_
    refine hK.out _ _ (unhide HCS _ _ (unhide O5) (by simp)) (fun hNew => ?_)
    clear hHeld hK K hNew KG O4 HNE CT2 HCS
    generalize w5.setRow g10 TV = w6 at *
    refine wpAnyH_done (by kernel_rfl) ?_ _
    refine NoPanic.normal ?_
    as_aux_lemma =>
      go_wp2_with fail
      go_loopw [9, 30] (fun gq q wr => ∃ j : Nat, j ≤ rs.length ∧ q = .int .i64 j ∧ gq = .int .i64 (grQ sq rs j) ∧ (redP t sq rs S A j).2.2 = 0 ∧ Held W (QSt W (SHas W m b St (redP t sq rs S A j).1 (redP t sq rs S A j).2.1) (RecSt W.heap.size (.slice p rs.length cap) rs)) w wr G [(g10, .cells TV 66), (g5, .cells #[.int .i64 g0, .int .i64 r0, .int .i64 sq, .int .i64 (c : Int)] 49)]) (fun _ q _ => rs.length - (intOf q).toNat)
      case atStart => exact ⟨0, by omega, rfl, by rw [unhide HG0], by rw [unhide H0], by rw [unhide H0]; exact unhide O5⟩
      case round =>
        clear O5
        obtain ⟨j, hj, rfl, rfl, hp, hh⟩ := hrel
        have HH := hide hh
        have HP := hide hp
        clear hh hp
        have hlen' : (rs.length : Int) ≤ 32 := by omega
        by_cases hlt : j < rs.length
        · have hlt' : (j : Int) < (rs.length : Int) := by omega
          obtain ⟨ga, rfl, hrg⟩ := (unhide HH).1.recs.2 j hlt
          have hmr := (mayR_iff _).1 (unhide HMAY (rs.getD j zr) (by rw [List.getD_eq_getElem?_getD, List.getElem?_eq_getElem hlt]; exact List.getElem_mem hlt))
          have hiv := unhide HINU (rs.getD j zr) (by rw [List.getD_eq_getElem?_getD, List.getElem?_eq_getElem hlt]; exact List.getElem_mem hlt)
          have hgn := unhide HGR j
          have hy := fun q => unhide HY j (unhide HP) q
          have hnn := unhide HN j
          have hkk := fun q => unhide HK (j + 1) q
          have hok := unhide HOK j (by omega)
          have hrb : ∀ q, redB t sq (rs.getD j zr) = q ↔ (decide (sq < (rs.getD j zr).q) && decide ((t (rs.getD j zr).d.toNat).k = 1)) = q := fun q => Iff.rfl
          obtain ⟨q1, d1, o1, v1, hr⟩ : ∃ a b c d, rs.getD j zr = ⟨a, b, c, d⟩ := ⟨_, _, _, _, rfl⟩
          rw [hr] at hrg hmr hiv hgn hy hnn hrb
          clear hr
          simp only at hmr hiv hgn hy hnn hrb
          obtain ⟨m1, m2, m3, m4, m5, m6⟩ := hmr
          have RG : Hid (wr.rangeAt ga (j * 4) [.int .i64 q1, .int .i64 d1, .int .i64 o1, .int .u64 v1]) := hrg
          have HGN := hide hgn
          have HYY := hide hy
          have HNN := hide hnn
          have HOKJ := hide hok
          have HRB := hide hrb
          have HIV := hide hiv
          have hbb := unhide HB
          have s4 : (Tryz.prog.info? 126).map (·.size) = some ([.int .i64 q1, .int .i64 d1, .int .i64 o1, .int .u64 v1] : List Value).length := by kernel_rfl
          clear hrg hgn hy hnn hok hrb hiv hkk
          go_upto_region 8 with (with_reducible refine wpList_load_mid (by with_unfolding_all rfl) 126 _ (by with_unfolding_all rfl) ga (j * 4) (by with_unfolding_all rfl) [.int .i64 q1, .int .i64 d1, .int .i64 o1, .int .u64 v1] _ (unhide RG) Tryz.underlying126 (by with_unfolding_all rfl) s4 ?_)
          have O2 := hide ((unhide HH).alloc (unhide HST _ _ _ _) (.cells #[.int .i64 q1, .int .i64 d1, .int .i64 o1, .int .u64 v1] 126))
          obtain ⟨g12, hg⟩ : ∃ g, g = wr.heap.size := ⟨_, rfl⟩
          rw [← hg] at O2 ⊢
          clear RG s4 HH hg
          generalize wr.alloc (.cells #[.int .i64 q1, .int .i64 d1, .int .i64 o1, .int .u64 v1] 126) = w8 at *
          have KR := (unhide O2).at g12 (.cells #[.int .i64 q1, .int .i64 d1, .int .i64 o1, .int .u64 v1] 126) (by simp)
          have r0' : w8.cell? ⟨g12, 0, none⟩ = some (.int .i64 q1) := by rw [cell_of_block KR]; rfl
          go_upto_region 9 with fail
          have s2 : w8.cell? ⟨g5, 2, none⟩ = some (.int .i64 sq) := by rw [cell_of_block ((unhide O2).at g5 (.cells #[.int .i64 g0, .int .i64 r0, .int .i64 sq, .int .i64 (c : Int)] 49) (by simp))]; rfl
          have r1' : w8.cell? ⟨g12, 1, none⟩ = some (.int .i64 d1) := by rw [cell_of_block KR]; rfl
          obtain ⟨dn, rfl⟩ : ∃ dn : Nat, d1 = (dn : Int) := ⟨d1.toNat, by omega⟩
          have d49 : dn < 49 := by omega
          have tk : w8.cell? ⟨g10, dn * 3, none⟩ = some (.int .i64 (t dn).k) := by rw [cell_of_block ((unhide O2).at g10 (.cells TV 66) (by simp))]; exact unhide HTW dn d49
          have hd49 : (dn : Int) < 49 := by omega
          by_cases hq : q1 ≤ sq
          · have hnb : ¬ redB t sq ⟨q1, (dn : Int), o1, v1⟩ = true := fun q => by
              have := (unhide HRB true).1 q
              rw [Bool.and_eq_true, decide_eq_true_iff] at this
              omega
            have HE := hide (unhide HNN hnb)
            clear HYY HNN HRB HOKJ HIV hnb
            go_wp2_with fail
            go_roundw
            case rel => exact ⟨j + 1, by omega, by go_num, by rw [unhide HGN], by rw [unhide HE]; exact unhide HP, by rw [unhide HE]; exact (unhide O2).less (unhide HST _ _ _ _) (fun p hp => List.mem_cons_of_mem _ hp)⟩
            case measure => simp [intOf]; omega
          by_cases hk1 : (t dn).k = 1
          · have hkb : ((t dn).k != 1) = false := by simpa using hk1
            have hnb : redB t sq ⟨q1, (dn : Int), o1, v1⟩ = true := (unhide HRB true).2 (by
              rw [Bool.and_eq_true, decide_eq_true_iff, decide_eq_true_iff]
              exact ⟨by omega, by rw [Int.toNat_natCast]; exact hk1⟩)
            have HE := hide (unhide HYY hnb)
            have hq2 : sq < q1 := by omega
            have CST := hide ((unhide O2).st.via (recSt_loc _ _ _) fun G' h' => set_any (unhide HM).toMemL h' (unhide HOKJ).1 (ok_mono (unhide HOKJ).2.1 (by omega)) (dn : Int) o1 v1 (unhide HIV))
            have r2' : w8.cell? ⟨g12, 2, none⟩ = some (.int .i64 o1) := by rw [cell_of_block KR]; rfl
            have r3' : w8.cell? ⟨g12, 3, none⟩ = some (.int .u64 v1) := by rw [cell_of_block KR]; rfl
            have HSTK := hide (fun q => unhide HK (j + 1) q)
            clear HYY HNN HRB HOKJ HIV hnb hk1 hq
            generalize (t dn).k = kd at *
            have E1 : Hid ((redP t sq rs S A (j + 1)).1 = (redP t sq rs S A j).1.setS (redP t sq rs S A j).2.1 (dn : Int) o1 v1) := by show _ = _; rw [unhide HE]
            have E2 : Hid ((redP t sq rs S A (j + 1)).2.1 = (redP t sq rs S A j).1.setM (redP t sq rs S A j).2.1 (dn : Int) o1 v1) := by show _ = _; rw [unhide HE]
            have E3 : Hid ((redP t sq rs S A (j + 1)).2.2 = (redP t sq rs S A j).1.setE (redP t sq rs S A j).2.1 (dn : Int) o1 v1) := by show _ = _; rw [unhide HE]
            rw [← unhide E1, ← unhide E2, ← unhide E3] at CST
            clear HE E1 E2 E3
            go_wp2_with fail
            refine (unhide CST).mono ?_
            rintro e w9 ⟨rfl, h1, h2⟩
            have O3 := hide ((unhide O2).call (St' := QSt W (SHas W m b St (redP t sq rs S A (j + 1)).1 (redP t sq rs S A (j + 1)).2.1) (RecSt W.heap.size (.slice (some ⟨ga, 0, none⟩) rs.length cap) rs)) h1 h2)
            clear h1 h2 CST O2 r0' r1' r2' r3' s2 tk KR
            by_cases he : (redP t sq rs S A (j + 1)).2.2 = 0
            · have HE := hide he
              rw [he]
              clear he
              go_wp2_with fail
              go_roundw
              case rel => exact ⟨j + 1, by omega, by go_num, by rw [unhide HGN], unhide HE, (unhide O3).less (unhide HST _ _ _ _) (fun p hp => List.mem_cons_of_mem _ hp)⟩
              case measure => simp [intOf]; omega
            · have hb1 : ((redP t sq rs S A (j + 1)).2.2 == 0) = false := by simpa using he
              have hb2 : ((redP t sq rs S A (j + 1)).2.2 != 0) = true := by simpa using he
              have HEQ : Hid (redP t sq rs S A rs.length = ((redP t sq rs S A (j + 1)).1, (redP t sq rs S A (j + 1)).2.1, (redP t sq rs S A (j + 1)).2.2)) := by
                have := unhide HSTK he (rs.length - (j + 1))
                rw [show j + 1 + (rs.length - (j + 1)) = rs.length by omega] at this
                exact this
              have HNZ : Hid ((redP t sq rs S A (j + 1)).2.2 = 0 → (0 : Int) = grQ sq rs rs.length + 1) := fun q => absurd q he
              clear he HSTK
              generalize (redP t sq rs S A (j + 1)).1 = S9 at *
              generalize (redP t sq rs S A (j + 1)).2.1 = A9 at *
              generalize (redP t sq rs S A (j + 1)).2.2 = E9 at *
              go_wp2_with fail
              go_ret2
              exact ReP.of (unhide HM).toMemL (unhide O3) (unhide HEQ) (unhide HNZ)
          · have hkb : ((t dn).k != 1) = true := by simpa using hk1
            have hnb : ¬ redB t sq ⟨q1, (dn : Int), o1, v1⟩ = true := fun q => by
              have := (unhide HRB true).1 q
              rw [Bool.and_eq_true, decide_eq_true_iff, decide_eq_true_iff, Int.toNat_natCast] at this
              exact hk1 this.2
            have HE := hide (unhide HNN hnb)
            have hq2 : sq < q1 := by omega
            clear HYY HNN HRB HOKJ HIV hnb hk1 hq
            generalize (t dn).k = kd at *
            go_wp2_with fail
            go_roundw
            case rel => exact ⟨j + 1, by omega, by go_num, by rw [unhide HGN], by rw [unhide HE]; exact unhide HP, by rw [unhide HE]; exact (unhide O2).less (unhide HST _ _ _ _) (fun p hp => List.mem_cons_of_mem _ hp)⟩
            case measure => simp [intOf]; omega
        · obtain rfl : j = rs.length := by omega
          have HGB : Hid (∀ k, k ≤ rs.length → grQ sq rs k ≤ 1099511627776) := fun k => by
            induction k with
            | zero => intro _; rw [unhide HG0]; exact hsq.2
            | succ k ih =>
              intro hk
              rw [unhide HGR k]
              have h1 := ih (by omega)
              have h2 := (mayR_iff _).1 (unhide HMAY (rs.getD k zr) (by rw [List.getD_eq_getElem?_getD, List.getElem?_eq_getElem (show k < rs.length by omega)]; exact List.getElem_mem _))
              omega
          have HG1 : Hid (∀ k, k ≤ rs.length → 0 ≤ grQ sq rs k) := fun k => by
            induction k with
            | zero => intro _; rw [unhide HG0]; exact hsq.1
            | succ k ih =>
              intro hk
              rw [unhide HGR k]
              have h1 := ih (by omega)
              omega
          have b1 := unhide HGB rs.length (Nat.le_refl _)
          have b2 := unhide HG1 rs.length (Nat.le_refl _)
          have HEQ : Hid (redP t sq rs S A rs.length = ((redP t sq rs S A rs.length).1, (redP t sq rs S A rs.length).2.1, 0)) := by
            show _ = _
            rw [← unhide HP]
          have HNZ : Hid ((0 : Int) = 0 → grQ sq rs rs.length + 1 = grQ sq rs rs.length + 1) := fun _ => rfl
          clear HGB HG1 HK HY HN HOK H0 HG0 HGR HP
          obtain ⟨gq, hgq⟩ : ∃ gq, gq = grQ sq rs rs.length := ⟨_, rfl⟩
          rw [← hgq] at b1 b2 ⊢
          have HGQ := hide hgq
          clear hgq
          go_wp2_with fail
          go_ret2
          refine ReP.of (unhide HM).toMemL (unhide HH) (unhide HEQ) (fun _ => ?_)
          rw [unhide HGQ]
  · have O3 := hide ((unhide O2).alloc (unhide HST _ _ _ _) (.cells ZTV 66))
    have HNE := hide (unhide O2).fresh
    refine (if_pos (by rfl)).mpr ?_
    refine im_allocZ 66 rfl ZTV (unhide ZT) ?_
    clear O2
    obtain ⟨g10, hg10⟩ : ∃ g, g = w3.heap.size := ⟨_, rfl⟩
    rw [← hg10] at O3 HNE ⊢
    clear hg10
    generalize w3.alloc (.cells ZTV 66) = w4 at *
    refine hK.out _ _ (unhide HCS _ _ (unhide O3) (by simp)) (fun hNew => ?_)
    clear hHeld
    have hHeld := hNew
    clear hK K hNew
    refine wpAnyH_ready (rs := [3]) (by kernel_rfl) (by simp) ?_
    refine AllReadyH.cons rfl (fun K hK => ?_) AllReadyH.nil
    go_simp
    refine (unhide CT2 _ _ (unhide O3)).mono ?_
    rintro e w5 ⟨rfl, hb⟩
    have O4 := hide ((unhide O3).below (unhide HST _ _ _ _) hb)
    clear hb O3
    go_wp2_with fail
    refine hK.out _ _ (unhide HCS _ _ (unhide O4) (by simp)) (fun hNew => ?_)
    clear hHeld
    have hHeld := hNew
    clear hK K hNew
    refine take_at 5 9 (v := ?_) rfl rfl (by kernel_rfl) (by kernel_rfl) (by kernel_rfl) (Or.inl ⟨by rfl, ?_⟩) hHeld ?_
    rotate_left
    · intro w hSw; go_simp; with_reducible rfl
    simp only [Act.put, List.setIfInBounds_toArray, List.set_cons_zero, List.set_cons_succ]
    refine wpAnyH_ready (rs := [6]) (by kernel_rfl) (by simp) ?_
    refine AllReadyH.cons rfl (fun K hK => ?_) AllReadyH.nil
    have KG := (unhide O4).at g10 (.cells ZTV 66) (by simp)
    have O5 := hide ((unhide O4).rowHd (unhide HST _ _ _ _) (unhide HNE) TV)
    refine (if_pos (by rfl)).mpr ?_
    refine wp_store_row 66 (.tmp 10) (.tmp 27) rfl g10 TV rfl rfl _ _ KG s147 (unhide hszt) (unhide XT) ?_
    refine hK.out _ _ (unhide HCS _ _ (unhide O5) (by simp)) (fun hNew => ?_)
    clear hHeld hK K hNew KG O4 HNE CT2 HCS
    generalize w5.setRow g10 TV = w6 at *
    refine wpAnyH_done (by kernel_rfl) ?_ _
    refine NoPanic.normal ?_
    as_aux_lemma =>
      go_wp2_with fail
      go_loopw [9, 30] (fun gq q wr => ∃ j : Nat, j ≤ rs.length ∧ q = .int .i64 j ∧ gq = .int .i64 (grQ sq rs j) ∧ (redP t sq rs S A j).2.2 = 0 ∧ Held W (QSt W (SHas W m b St (redP t sq rs S A j).1 (redP t sq rs S A j).2.1) (RecSt W.heap.size (.slice p rs.length cap) rs)) w wr G [(g10, .cells TV 66), (g5, .cells #[.int .i64 g0, .int .i64 r0, .int .i64 sq, .int .i64 (c : Int)] 49)]) (fun _ q _ => rs.length - (intOf q).toNat)
      case atStart => exact ⟨0, by omega, rfl, by rw [unhide HG0], by rw [unhide H0], by rw [unhide H0]; exact unhide O5⟩
      case round =>
        clear O5
        obtain ⟨j, hj, rfl, rfl, hp, hh⟩ := hrel
        have HH := hide hh
        have HP := hide hp
        clear hh hp
        have hlen' : (rs.length : Int) ≤ 32 := by omega
        by_cases hlt : j < rs.length
        · have hlt' : (j : Int) < (rs.length : Int) := by omega
          obtain ⟨ga, rfl, hrg⟩ := (unhide HH).1.recs.2 j hlt
          have hmr := (mayR_iff _).1 (unhide HMAY (rs.getD j zr) (by rw [List.getD_eq_getElem?_getD, List.getElem?_eq_getElem hlt]; exact List.getElem_mem hlt))
          have hiv := unhide HINU (rs.getD j zr) (by rw [List.getD_eq_getElem?_getD, List.getElem?_eq_getElem hlt]; exact List.getElem_mem hlt)
          have hgn := unhide HGR j
          have hy := fun q => unhide HY j (unhide HP) q
          have hnn := unhide HN j
          have hkk := fun q => unhide HK (j + 1) q
          have hok := unhide HOK j (by omega)
          have hrb : ∀ q, redB t sq (rs.getD j zr) = q ↔ (decide (sq < (rs.getD j zr).q) && decide ((t (rs.getD j zr).d.toNat).k = 1)) = q := fun q => Iff.rfl
          obtain ⟨q1, d1, o1, v1, hr⟩ : ∃ a b c d, rs.getD j zr = ⟨a, b, c, d⟩ := ⟨_, _, _, _, rfl⟩
          rw [hr] at hrg hmr hiv hgn hy hnn hrb
          clear hr
          simp only at hmr hiv hgn hy hnn hrb
          obtain ⟨m1, m2, m3, m4, m5, m6⟩ := hmr
          have RG : Hid (wr.rangeAt ga (j * 4) [.int .i64 q1, .int .i64 d1, .int .i64 o1, .int .u64 v1]) := hrg
          have HGN := hide hgn
          have HYY := hide hy
          have HNN := hide hnn
          have HOKJ := hide hok
          have HRB := hide hrb
          have HIV := hide hiv
          have hbb := unhide HB
          have s4 : (Tryz.prog.info? 126).map (·.size) = some ([.int .i64 q1, .int .i64 d1, .int .i64 o1, .int .u64 v1] : List Value).length := by kernel_rfl
          clear hrg hgn hy hnn hok hrb hiv hkk
          go_upto_region 8 with (with_reducible refine wpList_load_mid (by with_unfolding_all rfl) 126 _ (by with_unfolding_all rfl) ga (j * 4) (by with_unfolding_all rfl) [.int .i64 q1, .int .i64 d1, .int .i64 o1, .int .u64 v1] _ (unhide RG) Tryz.underlying126 (by with_unfolding_all rfl) s4 ?_)
          have O2 := hide ((unhide HH).alloc (unhide HST _ _ _ _) (.cells #[.int .i64 q1, .int .i64 d1, .int .i64 o1, .int .u64 v1] 126))
          obtain ⟨g12, hg⟩ : ∃ g, g = wr.heap.size := ⟨_, rfl⟩
          rw [← hg] at O2 ⊢
          clear RG s4 HH hg
          generalize wr.alloc (.cells #[.int .i64 q1, .int .i64 d1, .int .i64 o1, .int .u64 v1] 126) = w8 at *
          have KR := (unhide O2).at g12 (.cells #[.int .i64 q1, .int .i64 d1, .int .i64 o1, .int .u64 v1] 126) (by simp)
          have r0' : w8.cell? ⟨g12, 0, none⟩ = some (.int .i64 q1) := by rw [cell_of_block KR]; rfl
          go_upto_region 9 with fail
          have s2 : w8.cell? ⟨g5, 2, none⟩ = some (.int .i64 sq) := by rw [cell_of_block ((unhide O2).at g5 (.cells #[.int .i64 g0, .int .i64 r0, .int .i64 sq, .int .i64 (c : Int)] 49) (by simp))]; rfl
          have r1' : w8.cell? ⟨g12, 1, none⟩ = some (.int .i64 d1) := by rw [cell_of_block KR]; rfl
          obtain ⟨dn, rfl⟩ : ∃ dn : Nat, d1 = (dn : Int) := ⟨d1.toNat, by omega⟩
          have d49 : dn < 49 := by omega
          have tk : w8.cell? ⟨g10, dn * 3, none⟩ = some (.int .i64 (t dn).k) := by rw [cell_of_block ((unhide O2).at g10 (.cells TV 66) (by simp))]; exact unhide HTW dn d49
          have hd49 : (dn : Int) < 49 := by omega
          by_cases hq : q1 ≤ sq
          · have hnb : ¬ redB t sq ⟨q1, (dn : Int), o1, v1⟩ = true := fun q => by
              have := (unhide HRB true).1 q
              rw [Bool.and_eq_true, decide_eq_true_iff] at this
              omega
            have HE := hide (unhide HNN hnb)
            clear HYY HNN HRB HOKJ HIV hnb
            go_wp2_with fail
            go_roundw
            case rel => exact ⟨j + 1, by omega, by go_num, by rw [unhide HGN], by rw [unhide HE]; exact unhide HP, by rw [unhide HE]; exact (unhide O2).less (unhide HST _ _ _ _) (fun p hp => List.mem_cons_of_mem _ hp)⟩
            case measure => simp [intOf]; omega
          by_cases hk1 : (t dn).k = 1
          · have hkb : ((t dn).k != 1) = false := by simpa using hk1
            have hnb : redB t sq ⟨q1, (dn : Int), o1, v1⟩ = true := (unhide HRB true).2 (by
              rw [Bool.and_eq_true, decide_eq_true_iff, decide_eq_true_iff]
              exact ⟨by omega, by rw [Int.toNat_natCast]; exact hk1⟩)
            have HE := hide (unhide HYY hnb)
            have hq2 : sq < q1 := by omega
            have CST := hide ((unhide O2).st.via (recSt_loc _ _ _) fun G' h' => set_any (unhide HM).toMemL h' (unhide HOKJ).1 (ok_mono (unhide HOKJ).2.1 (by omega)) (dn : Int) o1 v1 (unhide HIV))
            have r2' : w8.cell? ⟨g12, 2, none⟩ = some (.int .i64 o1) := by rw [cell_of_block KR]; rfl
            have r3' : w8.cell? ⟨g12, 3, none⟩ = some (.int .u64 v1) := by rw [cell_of_block KR]; rfl
            have HSTK := hide (fun q => unhide HK (j + 1) q)
            clear HYY HNN HRB HOKJ HIV hnb hk1 hq
            generalize (t dn).k = kd at *
            have E1 : Hid ((redP t sq rs S A (j + 1)).1 = (redP t sq rs S A j).1.setS (redP t sq rs S A j).2.1 (dn : Int) o1 v1) := by show _ = _; rw [unhide HE]
            have E2 : Hid ((redP t sq rs S A (j + 1)).2.1 = (redP t sq rs S A j).1.setM (redP t sq rs S A j).2.1 (dn : Int) o1 v1) := by show _ = _; rw [unhide HE]
            have E3 : Hid ((redP t sq rs S A (j + 1)).2.2 = (redP t sq rs S A j).1.setE (redP t sq rs S A j).2.1 (dn : Int) o1 v1) := by show _ = _; rw [unhide HE]
            rw [← unhide E1, ← unhide E2, ← unhide E3] at CST
            clear HE E1 E2 E3
            go_wp2_with fail
            refine (unhide CST).mono ?_
            rintro e w9 ⟨rfl, h1, h2⟩
            have O3 := hide ((unhide O2).call (St' := QSt W (SHas W m b St (redP t sq rs S A (j + 1)).1 (redP t sq rs S A (j + 1)).2.1) (RecSt W.heap.size (.slice (some ⟨ga, 0, none⟩) rs.length cap) rs)) h1 h2)
            clear h1 h2 CST O2 r0' r1' r2' r3' s2 tk KR
            by_cases he : (redP t sq rs S A (j + 1)).2.2 = 0
            · have HE := hide he
              rw [he]
              clear he
              go_wp2_with fail
              go_roundw
              case rel => exact ⟨j + 1, by omega, by go_num, by rw [unhide HGN], unhide HE, (unhide O3).less (unhide HST _ _ _ _) (fun p hp => List.mem_cons_of_mem _ hp)⟩
              case measure => simp [intOf]; omega
            · have hb1 : ((redP t sq rs S A (j + 1)).2.2 == 0) = false := by simpa using he
              have hb2 : ((redP t sq rs S A (j + 1)).2.2 != 0) = true := by simpa using he
              have HEQ : Hid (redP t sq rs S A rs.length = ((redP t sq rs S A (j + 1)).1, (redP t sq rs S A (j + 1)).2.1, (redP t sq rs S A (j + 1)).2.2)) := by
                have := unhide HSTK he (rs.length - (j + 1))
                rw [show j + 1 + (rs.length - (j + 1)) = rs.length by omega] at this
                exact this
              have HNZ : Hid ((redP t sq rs S A (j + 1)).2.2 = 0 → (0 : Int) = grQ sq rs rs.length + 1) := fun q => absurd q he
              clear he HSTK
              generalize (redP t sq rs S A (j + 1)).1 = S9 at *
              generalize (redP t sq rs S A (j + 1)).2.1 = A9 at *
              generalize (redP t sq rs S A (j + 1)).2.2 = E9 at *
              go_wp2_with fail
              go_ret2
              exact ReP.of (unhide HM).toMemL (unhide O3) (unhide HEQ) (unhide HNZ)
          · have hkb : ((t dn).k != 1) = true := by simpa using hk1
            have hnb : ¬ redB t sq ⟨q1, (dn : Int), o1, v1⟩ = true := fun q => by
              have := (unhide HRB true).1 q
              rw [Bool.and_eq_true, decide_eq_true_iff, decide_eq_true_iff, Int.toNat_natCast] at this
              exact hk1 this.2
            have HE := hide (unhide HNN hnb)
            have hq2 : sq < q1 := by omega
            clear HYY HNN HRB HOKJ HIV hnb hk1 hq
            generalize (t dn).k = kd at *
            go_wp2_with fail
            go_roundw
            case rel => exact ⟨j + 1, by omega, by go_num, by rw [unhide HGN], by rw [unhide HE]; exact unhide HP, by rw [unhide HE]; exact (unhide O2).less (unhide HST _ _ _ _) (fun p hp => List.mem_cons_of_mem _ hp)⟩
            case measure => simp [intOf]; omega
        · obtain rfl : j = rs.length := by omega
          have HGB : Hid (∀ k, k ≤ rs.length → grQ sq rs k ≤ 1099511627776) := fun k => by
            induction k with
            | zero => intro _; rw [unhide HG0]; exact hsq.2
            | succ k ih =>
              intro hk
              rw [unhide HGR k]
              have h1 := ih (by omega)
              have h2 := (mayR_iff _).1 (unhide HMAY (rs.getD k zr) (by rw [List.getD_eq_getElem?_getD, List.getElem?_eq_getElem (show k < rs.length by omega)]; exact List.getElem_mem _))
              omega
          have HG1 : Hid (∀ k, k ≤ rs.length → 0 ≤ grQ sq rs k) := fun k => by
            induction k with
            | zero => intro _; rw [unhide HG0]; exact hsq.1
            | succ k ih =>
              intro hk
              rw [unhide HGR k]
              have h1 := ih (by omega)
              omega
          have b1 := unhide HGB rs.length (Nat.le_refl _)
          have b2 := unhide HG1 rs.length (Nat.le_refl _)
          have HEQ : Hid (redP t sq rs S A rs.length = ((redP t sq rs S A rs.length).1, (redP t sq rs S A rs.length).2.1, 0)) := by
            show _ = _
            rw [← unhide HP]
          have HNZ : Hid ((0 : Int) = 0 → grQ sq rs rs.length + 1 = grQ sq rs rs.length + 1) := fun _ => rfl
          clear HGB HG1 HK HY HN HOK H0 HG0 HGR HP
          obtain ⟨gq, hgq⟩ : ∃ gq, gq = grQ sq rs rs.length := ⟨_, rfl⟩
          rw [← hgq] at b1 b2 ⊢
          have HGQ := hide hgq
          clear hgq
          go_wp2_with fail
          go_ret2
          refine ReP.of (unhide HM).toMemL (unhide HH) (unhide HEQ) (fun _ => ?_)
          rw [unhide HGQ]

end Go.Proofs.YtiafhcgaikapcaaGreat


/-
  revive's Boot: the image that counts comes back, or does not.
-/
namespace Go.Proofs.YtiafhcgaikapcaaGreat
open Go.ChangeShapes Go.WideShapes Go.ChangeAt Go.RowKit Go.Joins
set_option maxRecDepth 10000
set_option linter.unusedVariables false
set_option linter.unusedSimpArgs false

theorem ld_may {A : Mm} {fr root : Int} (h : ldE A fr root = 0) (i : Nat) (hi : i < 49) : mayN (enAt (ldT A fr root) i) = true := by
  unfold ldE at h
  by_cases hon : A.on = true
  · rw [if_pos hon] at h
    by_cases hB : loadB A fr root = true
    · unfold ldT
      rw [if_pos ⟨hon, hB⟩]
      unfold tabA
      rw [rowE_at 49 _ _ hi]
      exact readX_l _ (((loadB_iff _ _ _).1 hB).2.1 (i / 7) (by omega)) _ (by omega)
    · rw [if_neg hB] at h; cases h
  · rw [if_neg hon] at h; cases h
theorem rd_ok {A : Mm} (hn : A.n ≤ 1024) (h : rdE A = 0) : (rdS A).ok ∧ ∀ i, i < 49 → mayN (A.tb i) = true := by
  unfold rdE at h
  by_cases q : A.n < A.fr
  · rw [if_pos q] at h; cases h
  rw [if_neg q] at h
  by_cases q2 : ldE A (A.fr : Int) A.rt = 0
  · have hm := fun i hi => ld_may q2 i hi
    refine ⟨ofS_ok (new_ok (by omega) hn) (fun i hi => ?_) _, hm⟩
    have := (mayN_iff _).1 (hm i hi)
    exact ⟨this.2.2.1, this.2.2.2.1⟩
  · rw [if_neg q2] at h; exact absurd h q2
/-- An image by value. -/
def imgV (p : Option Addr) (f0 f1 f2 f3 a n : Int) : Array Value := #[.pointer p, .int .i64 f0, .int .i64 f1, .int .i64 f2, .int .i64 f3, .int .i64 a, .int .i64 n]
def imgZ : Array Value := imgV none 0 0 0 0 0 0
theorem imgV_one (p : Option Addr) (f0 f1 f2 f3 a n : Int) : (imgV p f0 f1 f2 f3 a n).all (·.oneCell') = true := by simp [imgV, Value.oneCell']
theorem s7_img (p : Option Addr) (f0 f1 f2 f3 a n : Int) : (Tryz.prog.info? 111).map (·.size) = some (imgV p f0 f1 f2 f3 a n).size := by show _ = some 7; kernel_rfl
theorem zero_img : (Tryz.prog.info? 111).map (·.zero) = some (some (.agg imgZ)) := by kernel_rfl
theorem build_img0 : Tryz.prog.built 111 [] = some imgZ := by kernel_rfl
theorem build_img (p : Option Addr) (f0 f1 f2 f3 a n : Int) : Tryz.prog.built 111 [(0, .pointer p), (1, .agg #[.int .i64 f0, .int .i64 f1, .int .i64 f2, .int .i64 f3]), (2, .int .i64 a), (3, .int .i64 n)] = some (imgV p f0 f1 f2 f3 a n) := by kernel_rfl
theorem wpList_build4i {P : Program} {ops : Array Oper} {rest : List Oper} {o : Oper} {a : Act} {w : World} {Q : Exit → Act → World → Prop} (hg : o.guard = none) (t : TypeId) (x0 x1 x2 x3 : Operand) (ho : o.op = .build t #[(0, x0), (1, x1), (2, x2), (3, x3)]) (u0 u1 u2 u3 : Value) (h0 : a.eval x0 = u0) (h1 : a.eval x1 = u1) (h2 : a.eval x2 = u2) (h3 : a.eval x3 = u3) (cs : Array Value)
    (hb : P.built t [(0, u0), (1, u1), (2, u2), (3, u3)] = some cs) (h : wpList P ops Q rest (a.put o.dst (.agg cs)) w) : wpList P ops Q (o :: rest) a w := by
  subst h0 h1 h2 h3
  exact wpList_build hg t #[(0, x0), (1, x1), (2, x2), (3, x3)] ho (by simp [hb]) (by simpa [hb] using h)
theorem s7_img0 : (Tryz.prog.info? 111).map (·.size) = some imgZ.size := s7_img none 0 0 0 0 0 0
theorem imgZ_one : imgZ.all (·.oneCell') = true := imgV_one none 0 0 0 0 0 0
/-- What a Boot leaves. -/
def BoPost (W w : World) (m : Nat) (St : Mm → World → (Nat → Prop) → Prop) (A : Mm) (G : Nat → Prop) (e : Ending) (w' : World) : Prop :=
  if bootE A = 0 then ∃ b, e = .returned (.tuple #[.agg (imgV (some ⟨b, 0, none⟩) (A.findV.getD 0 0) A.rt A.sq A.cs A.findAt (bootN A)), .int .i64 0]) ∧ SHas W m b St (bootS A) (bootM A) w' G ∧ Same G w w'
  else Done (St (bootM A)) w G (.tuple #[.agg imgZ, .int .i64 (bootE A)]) e w'
theorem BoPost.no {W w w' : World} {m : Nat} {St : Mm → World → (Nat → Prop) → Prop} {A B : Mm} {G : Nat → Prop} {L : List (Nat × Obj)} {E : Int} (S : Stay W (St B)) (h : Held W (St B) w w' G L) (hE : bootE A = E) (hM : bootM A = B) (h0 : E ≠ 0) : BoPost W w m St A G (.returned (.tuple #[.agg imgZ, .int .i64 E])) w' := by
  subst hE hM
  unfold BoPost
  rw [if_neg h0]
  exact h.done S _
theorem BoPost.yes {W w w' : World} {m b : Nat} {St : Mm → World → (Nat → Prop) → Prop} {A : Mm} {G : Nat → Prop} {L : List (Nat × Obj)} {f0 f1 f2 f3 a n : Int} (S : Stay W (SHas W m b St (bootS A) (bootM A))) (h : Held W (SHas W m b St (bootS A) (bootM A)) w w' G L) (hE : bootE A = 0) (e : A.findV.getD 0 0 = f0 ∧ A.rt = f1 ∧ A.sq = f2 ∧ A.cs = f3 ∧ A.findAt = a ∧ bootN A = n) :
    BoPost W w m St A G (.returned (.tuple #[.agg (imgV (some ⟨b, 0, none⟩) f0 f1 f2 f3 a n), .int .i64 0])) w' := by
  obtain ⟨rfl, rfl, rfl, rfl, rfl, rfl⟩ := e
  unfold BoPost
  rw [if_pos hE]
  exact ⟨b, rfl, S.ls _ _ _ h.1 (fun k hk => Or.inl hk), h.2.2⟩

theorem QSt.noS {W w : World} {m b : Nat} {St : Mm → World → (Nat → Prop) → Prop} {S : Sto} {A : Mm} {G : Nat → Prop} (h : SHas W m b St S A w G) : St A w (fun k => G k ∨ k = b) := h.st
set_option maxHeartbeats 16000000 in
theorem imboot_any {W w : World} {m : Nat} {St : Mm → World → (Nat → Prop) → Prop} {A : Mm} {G : Nat → Prop} (M : MemI W m St) (h : St A w G) (B : Nat) (hA : A.ok B) (hB : B + 8 * A.rs.length ≤ 800) :
    Calls Tryz.prog 56 #[.pointer (some ⟨m, 0, none⟩)] w (BoPost W w m St A G) := by
  have HM := hide M
  have T0 := hide (M.stay A)
  have O0 := hide ((Held.start (unhide T0) h).alloc (unhide T0) (.cells imgZ 111))
  obtain ⟨f0, f1, f2, f3, hfv⟩ : ∃ f0 f1 f2 f3, A.findV = [f0, f1, f2, f3] := by
    have hl := findV_len A
    match A.findV, hl with
    | [a, b, c, d], _ => exact ⟨a, b, c, d, rfl⟩
  have CF := hide (fun (w' : World) (G' : Nat → Prop) (h' : St A w' G') => M.find w' G' A h' (ok_mono hA (by omega)))
  have ZI := hide zero_img
  obtain ⟨g2, hg2⟩ : ∃ g, g = w.heap.size := ⟨_, rfl⟩
  rw [← hg2] at O0
  have EV : Hid (Value.agg (iv .i64 A.findV) = .agg #[.int .i64 f0, .int .i64 f1, .int .i64 f2, .int .i64 f3]) := by show _ = _; rw [hfv]; rfl
  rw [unhide EV] at CF
  have HFE : Hid (A.findE ≠ 0 → bootE A = A.findE ∧ bootM A = A) := fun q => ⟨if_neg q, if_neg q⟩
  have HRE : Hid (A.findE = 0 → rdE A ≠ 0 → bootE A = rdE A ∧ bootM A = A) := fun q1 q2 => ⟨(if_pos q1).trans (if_neg q2), (if_pos q1).trans (if_neg q2)⟩
  have HBE : Hid (A.findE = 0 → rdE A = 0 → bootE A = (rd2 A A.rs.length).2.2 ∧ bootM A = (rd2 A A.rs.length).2.1) := fun q1 q2 => ⟨(if_pos q1).trans (if_pos q2), (if_pos q1).trans (if_pos q2)⟩
  by_cases hf : A.findE = 0
  · obtain ⟨⟨c, hc, c1, c8⟩, hrt, hsq, hv⟩ := find_bd hf
    have hon := (find_may hf).1
    obtain ⟨e1, e2, e3, e4⟩ : f0 = A.findV.getD 0 0 ∧ f1 = A.rt ∧ f2 = A.sq ∧ f3 = A.cs := by unfold Mm.rt Mm.sq Mm.cs; rw [hfv]; exact ⟨rfl, rfl, rfl, rfl⟩
    have hv2 : A.findV = [f0, A.rt, A.sq, A.cs] := by rw [hfv, e2, e3, e4]
    have CR := hide (fun (w' : World) (G' : Nat → Prop) (h' : St A w' G') => imread_any M h' (ok_mono hA (by omega)) hf f0 hv2)
    have CD := hide (fun (w' : World) (G' : Nat → Prop) (b : Nat) (h' : SHas W m b St (rdS A) A w' G') (hS : (rdS A).ok) => imredo_any M h' hS B hA hB hon c hc c1 c8 f0 A.rt hsq)
    rw [← e2, ← e3, ← e4] at CR
    rw [← e2, ← e3] at CD
    have E4 : Hid (f3 = (c : Int)) := e4.trans hc
    rw [← unhide E4] at CD
    have HSOK : Hid (rdE A = 0 → (rdS A).ok) := fun h0 => (rd_ok hA.2.1 h0).1
    have HR1 := hide (unhide HRE hf)
    have HB1 := hide (unhide HBE hf)
    have HP : Hid (∀ e w', ReP W m 0 St (rd2 A 0) 0 w' (fun _ => False) e w' → True) := fun _ _ _ => trivial
    have EALL : Hid (A.findV.getD 0 0 = f0 ∧ A.rt = f1 ∧ A.sq = f2 ∧ A.cs = f3) := ⟨e1.symm, e2.symm, e3.symm, e4.symm⟩
    have HFA : Hid (A.findAt = A.findAt) := rfl
    rw [hf] at CF
    have HBS : Hid (bootS A = (rd2 A A.rs.length).1) := rfl
    have HBN : Hid (bootN A = grQ f2 A.rs A.rs.length + 1) := by rw [e3]; exact rfl
    have HR2 : Hid (∀ n, redP (rdS A).w f2 A.rs (rdS A) A n = rd2 A n) := fun _ => by rw [e3]; exact rfl
    clear h M hA hB hf HFE HRE HBE hfv EV hon hrt hsq hv hv2 e1 e2 e3 e4 hc HP HFA E4
    obtain ⟨FA, hFA⟩ : ∃ FA, FA = A.findAt := ⟨_, rfl⟩
    rw [← hFA] at CF
    have HFA := hide hFA
    clear hFA
    go_enter Tryz.func56, Tryz.ntmps56
    go_upto_region 1 with (with_reducible refine wpList_allocZ (by with_unfolding_all rfl) 111 (by with_unfolding_all rfl) imgZ (unhide ZI) ?_)
    rw [← hg2]
    clear hg2 ZI
    generalize w.alloc (.cells imgZ 111) = w1 at *
    go_wp2_with fail
    refine (unhide CF _ _ (unhide O0).st).mono ?_
    rintro e w2 ⟨rfl, h1, h2⟩
    have O1 := hide (((unhide O0).call (St' := St A) h1 h2).alloc (unhide T0) (.cells #[.int .i64 f0, .int .i64 f1, .int .i64 f2, .int .i64 f3] 49))
    obtain ⟨g4, hg4⟩ : ∃ g, g = w2.heap.size := ⟨_, rfl⟩
    rw [← hg4] at O1
    clear h1 h2 O0 CF
    go_upto_region 2 with fail
    rw [← hg4]
    clear hg4
    generalize w2.alloc (.cells #[.int .i64 f0, .int .i64 f1, .int .i64 f2, .int .i64 f3] 49) = w3 at *
    go_upto_region 4 with fail
    have K4 := hide ((unhide O1).at g4 (.cells #[.int .i64 f0, .int .i64 f1, .int .i64 f2, .int .i64 f3] 49) (by simp))
    have s4 : (Tryz.prog.info? 49).map (·.size) = some (#[Value.int .i64 f0, .int .i64 f1, .int .i64 f2, .int .i64 f3] : Array Value).size := by show _ = some 4; kernel_rfl
    go_wp2_with (with_reducible refine wpList_load_row (by with_unfolding_all rfl) 49 _ (by with_unfolding_all rfl) g4 (by with_unfolding_all rfl) _ _ _ _ (unhide K4) Tryz.underlying49 (by with_unfolding_all rfl) s4 ?_)
    refine (unhide CR _ _ (unhide O1).st).mono ?_
    intro e w4 hq
    unfold IrPost at hq
    clear K4
    by_cases hr : rdE A = 0
    · rw [if_pos hr] at hq
      obtain ⟨b, rfl, h1, h2⟩ := hq
      have O2 := hide ((unhide O1).call (St' := SHas W m b St (rdS A) A) h1 h2)
      have CE := hide (unhide CD _ _ b (unhide O2).st (unhide HSOK hr))
      rw [unhide HR2] at CE
      have E2 := hide (unhide HB1 hr)
      clear h1 h2 O1 CR CD HSOK HR1 HB1 hr HR2
      go_upto_region 7 with fail
      have K4 := hide ((unhide O2).at g4 (.cells #[.int .i64 f0, .int .i64 f1, .int .i64 f2, .int .i64 f3] 49) (by simp))
      go_wp2_with (with_reducible refine wpList_load_row (by with_unfolding_all rfl) 49 _ (by with_unfolding_all rfl) g4 (by with_unfolding_all rfl) _ _ _ _ (unhide K4) Tryz.underlying49 (by with_unfolding_all rfl) s4 ?_)
      refine (unhide CE).mono ?_
      rintro e w5 ⟨z, rfl, hz, h1, h2⟩
      have O3 := hide ((unhide O2).call (St' := SHas W m b St (rd2 A A.rs.length).1 (rd2 A A.rs.length).2.1) h1 h2)
      have HZ := hide hz
      clear h1 h2 hz O2 CE K4
      by_cases h0 : (rd2 A A.rs.length).2.2 = 0
      · have E3 : Hid (bootE A = 0) := (unhide E2).1.trans h0
        have HZ1 := hide (unhide HZ h0)
        rw [h0]
        rw [← unhide HBS, ← (unhide E2).2] at O3
        rw [← unhide HBN] at HZ1
        clear h0 E2 HZ HBS HBN
        go_upto_region 10 with fail
        have K4 := hide ((unhide O3).at g4 (.cells #[.int .i64 f0, .int .i64 f1, .int .i64 f2, .int .i64 f3] 49) (by simp))
        have K2 := hide ((unhide O3).at g2 (.cells imgZ 111) (by simp))
        have BI := hide (build_img (some ⟨b, 0, none⟩) f0 f1 f2 f3 FA z)
        have SI := hide (s7_img (some ⟨b, 0, none⟩) f0 f1 f2 f3 FA z)
        have XI := hide (imgV_one (some ⟨b, 0, none⟩) f0 f1 f2 f3 FA z)
        have SZI : Hid (imgZ.size = (imgV (some ⟨b, 0, none⟩) f0 f1 f2 f3 FA z).size) := rfl
        have KZ : Hid ((w5.setRow g2 (imgV (some ⟨b, 0, none⟩) f0 f1 f2 f3 FA z)).heap[g2]? = some (.cells (imgV (some ⟨b, 0, none⟩) f0 f1 f2 f3 FA z) 111 (0, 0))) := setRow_heap _ _ _ _ _ _ (unhide K2)
        have O4 := hide ((unhide O3).row (SHas.stay (unhide HM).toMemL b _ _) g2 imgZ 111 (0, 0) (by simp) (imgV (some ⟨b, 0, none⟩) f0 f1 f2 f3 FA z))
        have HVV : Hid (imgV (some ⟨b, 0, none⟩) f0 f1 f2 f3 FA z = imgV (some ⟨b, 0, none⟩) f0 f1 f2 f3 FA z) := rfl
        obtain ⟨IV, hIV⟩ : ∃ IV, IV = imgV (some ⟨b, 0, none⟩) f0 f1 f2 f3 FA z := ⟨_, rfl⟩
        rw [← hIV] at BI SI XI SZI KZ O4
        have HIV := hide hIV
        clear hIV HVV
        go_wp2_with (first | (with_reducible refine wpList_load_row (by with_unfolding_all rfl) 49 _ (by with_unfolding_all rfl) g4 (by with_unfolding_all rfl) _ _ _ _ (unhide K4) Tryz.underlying49 (by with_unfolding_all rfl) s4 ?_) | (with_reducible refine wpList_build4i (by with_unfolding_all rfl) 111 _ _ _ _ (by with_unfolding_all rfl) (.pointer (some ⟨b, 0, none⟩)) (.agg #[.int .i64 f0, .int .i64 f1, .int .i64 f2, .int .i64 f3]) (.int .i64 FA) (.int .i64 z) (by with_unfolding_all rfl) (by with_unfolding_all rfl) (by with_unfolding_all rfl) (by with_unfolding_all rfl) _ (unhide BI) ?_) | (with_reducible refine wpList_store_row (by with_unfolding_all rfl) 111 _ _ (by with_unfolding_all rfl) g2 IV (by with_unfolding_all rfl) (by with_unfolding_all rfl) _ _ (unhide K2) (unhide SI) (unhide SZI) (unhide XI) ?_))
        refine bodyPost_ret (v := .tuple #[.agg IV, .int .i64 0]) (results_two Tryz.results56 _ _ g2 111 IV (0, 0) _ _ rfl rfl (unhide KZ) Tryz.underlying111 rfl (unhide SI)) rfl ?_
        rw [unhide HIV]
        rw [unhide HIV] at O4
        exact BoPost.yes (SHas.stay (unhide HM).toMemL b _ _) (unhide O4) (unhide E3) ⟨(unhide EALL).1, (unhide EALL).2.1, (unhide EALL).2.2.1, (unhide EALL).2.2.2, (unhide HFA).symm, (unhide HZ1).symm⟩
      · have hb1 : ((rd2 A A.rs.length).2.2 == 0) = false := by simpa using h0
        have hb2 : ((rd2 A A.rs.length).2.2 != 0) = true := by simpa using h0
        have HNZ := hide h0
        clear h0 HZ HBS HBN
        generalize (rd2 A A.rs.length).1 = S9 at *
        generalize (rd2 A A.rs.length).2.1 = A9 at *
        generalize (rd2 A A.rs.length).2.2 = E9 at *
        go_upto_region 9 with fail
        have OX := O3
        clear O3
        obtain ⟨wx, hwx⟩ : ∃ wx, wx = w5 := ⟨_, rfl⟩
        rw [← hwx] at OX ⊢
        clear hwx
        have K2 := hide ((unhide OX).at g2 (.cells imgZ 111) (by simp))
        have KZ : Hid ((wx.setRow g2 imgZ).heap[g2]? = some (.cells imgZ 111 (0, 0))) := setRow_heap _ _ _ _ _ _ (unhide K2)
        go_wp2_with (first | (with_reducible refine wpList_build0 (by with_unfolding_all rfl) 111 (by with_unfolding_all rfl) imgZ build_img0 ?_) | (with_reducible refine wpList_store_row (by with_unfolding_all rfl) 111 _ _ (by with_unfolding_all rfl) g2 imgZ (by with_unfolding_all rfl) (by with_unfolding_all rfl) _ _ (unhide K2) s7_img0 rfl imgZ_one ?_))
        refine bodyPost_ret (v := .tuple #[.agg imgZ, .int .i64 E9]) (results_two Tryz.results56 _ _ g2 111 imgZ (0, 0) _ _ rfl rfl (unhide KZ) Tryz.underlying111 rfl s7_img0) rfl ?_
        have OY := (unhide OX).row (SHas.stay (unhide HM).toMemL b _ _) g2 imgZ 111 (0, 0) (by simp) imgZ
        have OZ : Held W (St A9) w _ G [] := ⟨((unhide HM).stay A9).ls _ _ _ (QSt.noS OY.1) (fun k hk => by rcases hk with hk | ⟨o, hk⟩; exact Or.inl (Or.inl hk); cases hk), by simp, OY.2.2⟩
        exact BoPost.no ((unhide HM).stay A9) OZ (unhide E2).1 (unhide E2).2 (unhide HNZ)
    · rw [if_neg hr] at hq
      obtain ⟨rfl, h1, h2⟩ := hq
      have O2 := hide ((unhide O1).call (St' := St A) h1 h2)
      have E2 := hide (unhide HR1 hr)
      have hb1 : (rdE A == 0) = false := by simpa using hr
      have hb2 : (rdE A != 0) = true := by simpa using hr
      have HNZ := hide hr
      clear h1 h2 O1 CR CD HSOK HR1 HB1 hr
      generalize rdE A = RE at *
      go_upto_region 6 with fail
      have OX := O2
      clear O2
      obtain ⟨wx, hwx⟩ : ∃ wx, wx = w4 := ⟨_, rfl⟩
      rw [← hwx] at OX ⊢
      clear hwx
      have K2 := hide ((unhide OX).at g2 (.cells imgZ 111) (by simp))
      have KZ : Hid ((wx.setRow g2 imgZ).heap[g2]? = some (.cells imgZ 111 (0, 0))) := setRow_heap _ _ _ _ _ _ (unhide K2)
      go_wp2_with (first | (with_reducible refine wpList_build0 (by with_unfolding_all rfl) 111 (by with_unfolding_all rfl) imgZ build_img0 ?_) | (with_reducible refine wpList_store_row (by with_unfolding_all rfl) 111 _ _ (by with_unfolding_all rfl) g2 imgZ (by with_unfolding_all rfl) (by with_unfolding_all rfl) _ _ (unhide K2) s7_img0 rfl imgZ_one ?_))
      refine bodyPost_ret (v := .tuple #[.agg imgZ, .int .i64 RE]) (results_two Tryz.results56 _ _ g2 111 imgZ (0, 0) _ _ rfl rfl (unhide KZ) Tryz.underlying111 rfl s7_img0) rfl ?_
      exact BoPost.no (unhide T0) ((unhide OX).row (unhide T0) g2 imgZ 111 (0, 0) (by simp) imgZ) (unhide E2).1 (unhide E2).2 (unhide HNZ)
  · have HF := hide hf
    have E1 := hide (unhide HFE hf)
    have hb1 : (A.findE == 0) = false := by simpa using hf
    have hb2 : (A.findE != 0) = true := by simpa using hf
    clear h M hA hB hf HFE HRE HBE hfv EV
    generalize A.findE = FE at *
    generalize A.findAt = FA at *
    go_enter Tryz.func56, Tryz.ntmps56
    go_upto_region 1 with (with_reducible refine wpList_allocZ (by with_unfolding_all rfl) 111 (by with_unfolding_all rfl) imgZ (unhide ZI) ?_)
    rw [← hg2]
    clear hg2 ZI
    generalize w.alloc (.cells imgZ 111) = w1 at *
    go_wp2_with fail
    refine (unhide CF _ _ (unhide O0).st).mono ?_
    rintro e w2 ⟨rfl, h1, h2⟩
    have O1 := hide (((unhide O0).call (St' := St A) h1 h2).alloc (unhide T0) (.cells #[.int .i64 f0, .int .i64 f1, .int .i64 f2, .int .i64 f3] 49))
    clear h1 h2 O0 CF
    go_upto_region 3 with fail
    have OX := O1
    clear O1
    generalize hwx : w2.alloc (.cells #[.int .i64 f0, .int .i64 f1, .int .i64 f2, .int .i64 f3] 49) = wx at *
    clear hwx
    have K2 := hide ((unhide OX).at g2 (.cells imgZ 111) (by simp))
    have KZ : Hid ((wx.setRow g2 imgZ).heap[g2]? = some (.cells imgZ 111 (0, 0))) := setRow_heap _ _ _ _ _ _ (unhide K2)
    go_wp2_with (first | (with_reducible refine wpList_build0 (by with_unfolding_all rfl) 111 (by with_unfolding_all rfl) imgZ build_img0 ?_) | (with_reducible refine wpList_store_row (by with_unfolding_all rfl) 111 _ _ (by with_unfolding_all rfl) g2 imgZ (by with_unfolding_all rfl) (by with_unfolding_all rfl) _ _ (unhide K2) s7_img0 rfl imgZ_one ?_))
    refine bodyPost_ret (v := .tuple #[.agg imgZ, .int .i64 FE]) (results_two Tryz.results56 _ _ g2 111 imgZ (0, 0) _ _ rfl rfl (unhide KZ) Tryz.underlying111 rfl s7_img0) rfl ?_
    exact BoPost.no (unhide T0) ((unhide OX).row (unhide T0) g2 imgZ 111 (0, 0) (by simp) imgZ) (unhide E1).1 (unhide E1).2 (unhide HF)

end Go.Proofs.YtiafhcgaikapcaaGreat


/-
  An image with the power on: a record is appended, it comes back with all records done again, each object is told. No program.
-/
namespace Go.Proofs.YtiafhcgaikapcaaGreat
set_option linter.unusedVariables false
set_option maxRecDepth 10000

/-! ### how many frames are left -/
theorem left_put1 (F : Fr) (i : Nat) (v : Int) : F.left ≤ (F.put i v).left + 1 := by
  unfold Fr.left Fr.leftTo
  show (List.range F.hi).countP F.fr ≤ (List.range F.hi).countP (F.put i v).fr + 1
  have hne : ∀ j, j ≠ i → F.fr j = (F.put i v).fr j := fun j hj => by
    unfold Fr.fr
    show (decide (F.lo ≤ j) && F.s j == 0) = (decide (F.lo ≤ j) && upd F.s i v j == 0)
    rw [upd_other _ _ _ _ hj]
  cases h1 : F.fr i with
  | false =>
    refine Nat.le_succ_of_le (List.countP_mono_left fun j _ hj => ?_)
    by_cases e : j = i
    · subst e; rw [h1] at hj; cases hj
    · rw [← hne j e]; exact hj
  | true =>
    cases h2 : (F.put i v).fr i with
    | false =>
      have := count_one h1 h2 hne F.hi
      rw [this]
      split <;> omega
    | true =>
      refine Nat.le_succ_of_le (List.countP_mono_left fun j _ hj => ?_)
      by_cases e : j = i
      · subst e; exact h2
      · rw [← hne j e]; exact hj
theorem left_turn (F : Fr) (z was is : Int) : F.left ≤ (F.turnA z was is).left + 1 := by
  unfold Fr.turnA
  split
  · exact left_put1 F _ _
  · omega
theorem left_takeL (l : List Int) : ∀ F : Fr, F.left ≤ (F.takeL l).left + l.length := by
  induction l with
  | nil => intro F; exact Nat.le_refl _
  | cons z r ih =>
    intro F
    have h1 := left_turn F z 0 1
    have h2 := ih (F.turnA z 0 1)
    show F.left ≤ ((F.turnA z 0 1).takeL r).left + (r.length + 1)
    omega
theorem left_newTo (lo hi : Nat) : ∀ k, k ≤ (Fr.new lo hi).leftTo k + lo
  | 0 => Nat.zero_le _
  | k + 1 => by
    have ih := left_newTo lo hi k
    rw [leftTo_next]
    by_cases h : lo ≤ k
    · rw [if_pos (fr_iff.2 ⟨h, rfl⟩)]; omega
    · split <;> omega
theorem left_ofS (lo hi : Nat) (t : Nat → En) (d : Nat → Int) : hi ≤ (ofS (Fr.new lo hi) t d).F.left + lo + 57 := by
  have h1 : hi ≤ (Fr.new lo hi).left + lo := left_newTo lo hi hi
  have h2 := left_takeL (claimL t d) (Fr.new lo hi)
  have h3 : (claimL t d).length ≤ 57 := by
    unfold claimL
    rw [List.length_append]
    have a : (dirTo d 8).length = 8 := by simp [dirTo]
    have b := linesTo_len t 49
    show (dirTo d 8).length + (linesTo t 49).length ≤ 57
    omega
  show hi ≤ ((Fr.new lo hi).takeL (claimL t d)).left + lo + 57
  omega

/-! ### a record is appended -/
section
variable {n c : Nat} {tb : Nat → En} {d : Nat → Int} {C : Nat → Nat → Int} {f : Nat → Option Rc} {A : Mm} {D : Nat → Nat → Int}
def freeI (f : Nat → Option Rc) (k : Nat) (seq : Int) (j : Nat) : Bool := match f (2 + 4 * k + j) with
  | none => true
  | some r => decide (r.q ≤ seq)
theorem Im.free (h : Im n c tb d C f A) {k j : Nat} (hk : k < c) (hj : j < 4) (seq : Int) : A.freeB k seq j = freeI f k seq j := by
  have hb : 2 + 4 * k + j < fromN c := by unfold fromN; omega
  unfold Mm.freeB freeI Mm.rowN
  cases hf : f (2 + 4 * k + j) with
  | none => rw [isR_nought _ (has7 (h.no _ (by omega) hb hf))]; rfl
  | some r =>
    obtain ⟨h1, h2⟩ := h.is _ r (by omega) hb hf
    rw [su_has (lineR_len r) h2, isR_line r h1, readRV_line r h1]; rfl
theorem Im.app (h : Im n c tb d C f A) (hs : Su n A D) {k j : Nat} (hk : k < c) (hj : j < 4) (seq : Int) {r : Rc} (hm : mayR r = true) (hno : f (2 + 4 * k + j) = none) (hbusy : ∀ i, i < j → freeI f k seq i = false) :
    A.appE (k : Int) seq r = 0 ∧ Su n (A.appZ (k : Int) seq r) (upd D (2 + 4 * k + j) (listF (lineR r))) ∧ Im n c tb d C (upd f (2 + 4 * k + j) (some r)) (A.appZ (k : Int) seq r) := by
  have hc := h.hc
  have hn := h.hn
  have hb : 2 + 4 * k + j < fromN c := by unfold fromN; omega
  have hfN : A.freeN k seq 4 = some j := by
    unfold Mm.freeN
    rw [List.find?_range_eq_some]
    refine ⟨?_, by simpa using hj, fun i hi => ?_⟩
    · rw [h.free hk hj]; unfold freeI; rw [hno]
    · rw [h.free hk (by omega), hbusy i hi]; rfl
  have h8 : is8 (k : Int) := ⟨by omega, by omega⟩
  have he : A.freeE (k : Int) seq = 0 := by unfold Mm.freeE; rw [if_pos h8, if_pos hs.calm.1, Int.toNat_natCast, hfN]; rfl
  have hv : A.freeV (k : Int) seq = ((2 + 4 * k + j : Nat) : Int) := by unfold Mm.freeV; rw [if_pos ⟨h8, hs.calm.1⟩, Int.toNat_natCast, hfN]; rfl
  have e1 : A.appE (k : Int) seq r = A.wrE (k : Int) ((2 + 4 * k + j : Nat) : Int) (lineR r) := by simp only [Mm.appE, he, hm, if_true, hv, lineRV_may r hm]
  have e2 : A.appZ (k : Int) seq r = A.wrZ (k : Int) ((2 + 4 * k + j : Nat) : Int) (lineR r) := by simp only [Mm.appZ, he, hm, if_true, hv, lineRV_may r hm]
  have hn64 : 64 ≤ A.n := by rw [hs.n]; exact hn.1
  obtain ⟨w1, w3⟩ := wroteR A (fun i => (hs.su i).1) hn64 (k : Int) h8 ((2 + 4 * k + j : Nat) : Int) (2 + 4 * k + j) rfl (by omega) (lineR r)
  obtain ⟨g1, g2⟩ := wrote_freeR A hs.calm.1 hs.calm.2 hn64 (k : Int) h8 ((2 + 4 * k + j : Nat) : Int) (2 + 4 * k + j) rfl (by omega) (lineR r)
  have hnn := wrZ_n A (k : Int) ((2 + 4 * k + j : Nat) : Int) (lineR r)
  rw [e1, e2]
  have hy2 : 2 ≤ 2 + 4 * k + j := by omega
  generalize 2 + 4 * k + j = y at *
  generalize A.wrE (k : Int) (y : Int) (lineR r) = E at *
  generalize A.wrZ (k : Int) (y : Int) (lineR r) = B at *
  have hy : LSu (B.l y) (listF (lineR r)) := by
    rcases w1.w with ⟨m, _, _, _, h4⟩ | ⟨h1, h2⟩
    · exact absurd g1 h4
    · exact ⟨h2, fun q hq => by rw [h1, run_stW _ _ 8 q (Nat.le_refl _), if_pos hq]; rfl⟩
  have ho : ∀ i, i ≠ y → LSu (B.l i) (D i) := fun i hi => by
    obtain ⟨h1, h2⟩ := w1.o i hi
    exact ⟨h2, fun q hq => by rw [h1]; exact (hs.su i).2 q hq⟩
  have hx : ∀ i, i ≠ y → ∀ c', LSu (A.l i) c' → LSu (B.l i) c' := fun i hi c' hA => by
    obtain ⟨h1, h2⟩ := w1.o i hi
    exact ⟨h2, fun q hq => by rw [h1]; exact hA.2 q hq⟩
  have hz : ∀ i, i ≠ y → ((A.l i).t = [] ∧ (A.l i).s 7 = 0) → ((B.l i).t = [] ∧ (B.l i).s 7 = 0) := fun i hi hA => by
    obtain ⟨h1, h2⟩ := w1.o i hi
    exact ⟨h2, by rw [h1]; exact hA.2⟩
  refine ⟨g1, ⟨⟨w3 g1, g2⟩, hnn.trans hs.n, fun i => ?_⟩, ⟨hnn.trans hs.n, hn, hc, h.hf, hx 0 (by omega) _ h.s0, hz 1 (by omega) h.s1, fun i r' a b e => ?_, fun i a b e => ?_, ⟨fun k' hk' => hx _ ?_ _ (h.img.lf k' hk'), hx _ ?_ _ h.img.rt, h.img.may, h.img.db, h.img.te, h.img.dd, h.img.dt, h.img.tt⟩, fun i hi hki => hx _ ?_ _ (h.ob i hi hki), h.tz, h.dz⟩⟩
  · by_cases e : i = y
    · subst e; rw [upd_same]; exact hy
    · rw [upd_other _ _ _ _ e]; exact ho i e
  · by_cases q : i = y
    · subst q; rw [upd_same] at e; cases e; exact ⟨hm, hy⟩
    · rw [upd_other _ _ _ _ q] at e
      exact ⟨(h.is i r' a b e).1, hx i q _ (h.is i r' a b e).2⟩
  · by_cases q : i = y
    · subst q; rw [upd_same] at e; cases e
    · rw [upd_other _ _ _ _ q] at e
      exact hz i q (h.no i a b e)
  · have := h.img.db k' (by omega); omega
  · have := h.img.db 7 (by omega); omega
  · have := h.img.te i hi hki; omega

/-! ### it comes back -/
theorem Im.hasC (h : Im n c tb d C f A) (hc : Calm A) {i : Nat} (hi : i < 49) (hk : (tb i).k ≠ 0) (j : Nat) (hj : j < 8) : A.hasZ (tb i).l j = C i j := by
  have hz : A.isZ (tb i).l := ⟨by have := h.img.te i hi hk; omega, by have := h.img.te i hi hk; have := h.an; omega⟩
  rw [has_of hc hz]
  exact (h.ob i hi hk).hs j hj
theorem Im.begun (h : Im n c tb d C f A) (hc : Calm A) (m : Nat) (hm : m + fromN c + 57 ≤ n) : Ic n c tb d C m (ofS (Fr.new (fromN c) n) tb d) A :=
  ⟨h.start, hc, h.an, fun i hi hk j hj => h.hasC hc hi hk j hj, by have := left_ofS (fromN c) n tb d; omega⟩
/-- An image comes back, with all that was journalled. -/
theorem Im.boot (h : Im n c tb d C f A) (hc : Calm A) (hm : A.rs.length + fromN c + 57 ≤ n) :
    bootE A = 0 ∧ A.findAt = 0 ∧ Ic n c tb d (redC tb 0 A.rs C A.rs.length) 0 (bootS A) (bootM A) ∧ Im n c tb d C f (bootM A) ∧ A.rs = sortR (recI f (4 * c)) ∧ A.sq = 0 := by
  obtain ⟨e1, e2, e3, e4⟩ := h.cs hc.1
  obtain ⟨f1, f2, f3⟩ := h.found hc.1
  obtain ⟨l1, l2, l3⟩ := h.load hc.1
  obtain ⟨r1, r2⟩ := h.read hc.1
  have hI := h.begun hc A.rs.length hm
  have key := (Ic.redo (q := 0) (A.rs_may) hI) A.rs.length (Nat.le_refl _)
  have e0 : rd2 A A.rs.length = redP tb 0 A.rs (ofS (Fr.new (fromN c) n) tb d) A A.rs.length := by unfold rd2; rw [r2, l2, e3]
  have hb : bootM A = (rd2 A A.rs.length).2.1 := (if_pos f1).trans (if_pos r1)
  refine ⟨(if_pos f1).trans ((if_pos r1).trans (by rw [e0]; exact key.1)), f3, ?_, h.booted, h.scanned hc.1, e3⟩
  unfold bootS
  rw [hb, e0]
  have := key.2
  rwa [Nat.sub_self] at this
/-- With no records nothing turns. -/
theorem boot_none {A : Mm} (h : A.rs = []) : bootM A = A := by
  unfold bootM
  split
  · split
    · unfold rd2; rw [h]; rfl
    · rfl
  · rfl
/-- What Get tells. -/
theorem obV_ext {k v : Int} {f g : Nat → Int} (h : ∀ j, j < 8 → f j = g j) : obV k v f = obV k v g := by
  unfold obV
  congr 1
  unfold lnV
  exact tab_ext fun j hj => by rw [h j hj]
theorem Ic.get {m : Nat} {S : Sto} (h : Ic n c tb d C m S A) (i : Nat) (hi : i < 49) :
    ((tb i).k ≠ 0 → S.getE A (i : Int) = 0 ∧ S.getV A (i : Int) = obV (tb i).k (tb i).v (C i)) ∧ ((tb i).k = 0 → S.getE A (i : Int) = 30 ∧ S.getV A (i : Int) = obV 0 0 fun _ => 0) := by
  have hw := h.w i hi
  constructor
  · intro hk
    have hwk : (S.w i).k ≠ 0 := by rw [hw.1]; exact hk
    have hf : S.findE (i : Int) = 0 := by unfold Sto.findE; rw [if_pos ⟨by omega, by omega⟩, Int.toNat_natCast, if_neg hwk]
    have hz : A.isZ (S.line (i : Int)) := by
      have := (h.inv.tw i hi hwk).1
      unfold Sto.line
      rw [Int.toNat_natCast]
      exact isZ_isF (by rw [h.hi, h.an]; exact Nat.le_refl _) this
    have he : S.getE A (i : Int) = 0 := by unfold Sto.getE; rw [if_pos hf]; exact calm_loadE h.calm hz
    refine ⟨he, ?_⟩
    unfold Sto.getV
    rw [if_pos he, Int.toNat_natCast, hw.1, hw.2]
    refine obV_ext fun j hj => ?_
    unfold Sto.line
    rw [Int.toNat_natCast]
    exact h.has i hi hk j hj
  · intro hk
    have hf : S.findE (i : Int) = 30 := by unfold Sto.findE; rw [if_pos ⟨by omega, by omega⟩, Int.toNat_natCast, hw.1, if_pos hk]
    have he : S.getE A (i : Int) = 30 := by unfold Sto.getE; rw [hf]; rfl
    refine ⟨he, ?_⟩
    unfold Sto.getV
    rw [he]; rfl
end

end Go.Proofs.YtiafhcgaikapcaaGreat


/-
  A store that came back, as the company of the memory: a second Boot beside it, a record appended.
-/
namespace Go.Proofs.YtiafhcgaikapcaaGreat
open Go.ChangeShapes Go.WideShapes Go.ChangeAt Go.RowKit Go.Joins
set_option maxRecDepth 10000
set_option linter.unusedVariables false
set_option linter.unusedSimpArgs false

section
variable {W w : World} {m b : Nat} {St : Mm → World → (Nat → Prop) → Prop} {S : Sto} {A : Mm} {G : Nat → Prop}
theorem SHas.ofMemI (h : SHas W m b St S A w G) {A' : Mm} {v : Value} {e : Ending} {w' : World} (hd : Done (St A') w (fun k => G k ∨ k = b) v e w') : Done (SHas W m b St S A') w G v e w' := by
  obtain ⟨he, h1, h2⟩ := hd
  refine ⟨he, ⟨?_, h1, h.nb, h.new⟩, fun k hg => h2 k (Or.inl hg)⟩
  have := h.rep
  unfold SRep Blk at this ⊢
  rw [h2 b (Or.inr rfl)]; exact this
theorem SHas.memI (M : MemI W m St) (b : Nat) (S : Sto) : MemI W m (fun A w G => SHas W m b St S A w G) where
  stay := fun A => SHas.stay M.toMemL b S A
  store := fun w G A h hok z q v => h.store M.toMemL hok z q v
  lines := fun w G A h => M.lines w _ A h.st
  load := fun w G A h hn z => h.load M.toMemL hn z
  flush := fun w G A h hok y z => (M.flush w _ A h.st hok y z).mono fun e w' hd => h.ofMemI hd
  fence := fun w G A h hok y => (M.fence w _ A h.st hok y).mono fun e w' hd => h.ofMemI hd
  write := fun w G A h hok core slot s hs => (M.write w _ A h.st hok core slot s hs).mono fun e w' hd => h.ofMemI hd
  find := fun w G A h hok => (M.find w _ A h.st hok).mono fun e w' hd => h.ofMemI hd
  dir := fun w G A h hok fr root hz => M.dir w _ A h.st hok fr root hz
  scan := fun w G A h hok z => h.scan M hok z
/-- A call on a store beneath another one. -/
theorem SHas.under {b2 : Nat} {S2 : Sto} (h : SHas W m b2 (fun A w G => SHas W m b St S A w G) S2 A w G) {v : Value} {e : Ending} {w' : World} (hd : Done (SHas W m b St S A) w (fun k => G k ∨ k = b2) v e w') : Done (SHas W m b2 (fun A w G => SHas W m b St S A w G) S2 A) w G v e w' := by
  obtain ⟨he, h1, h2⟩ := hd
  refine ⟨he, ⟨?_, h1, h.nb, h.new⟩, fun k hg => h2 k (Or.inl hg)⟩
  have := h.rep
  unfold SRep Blk at this ⊢
  rw [h2 b2 (Or.inr rfl)]; exact this
end
theorem SHas.appI {W w : World} {m b : Nat} {S : Sto} {A : Mm} {G : Nat → Prop} (h : SHas W m b (fun A w G => Has W w G m A) S A w G) (hok : A.ok 900) (core seq : Int) (r : Rc) (hr : r.ok) :
    Calls Tryz.prog 62 #[.pointer (some ⟨m, 0, none⟩), .int .i64 core, .int .i64 seq, .agg (rv r)] w (Done (SHas W m b (fun A w G => Has W w G m A) S (A.appZ core seq r)) w G (.int .i64 (A.appE core seq r))) :=
  (h.st.appR hok core seq r hr).mono fun e w' hd => h.ofMemI hd

/-! ### a new memory -/
theorem new_su (n : Nat) (h1 : 64 ≤ n) (h2 : n ≤ 1024) : Su n (Mm.new n fun _ _ => 0) (fun _ _ => 0) := ⟨⟨rfl, rfl⟩, rfl, fun i => ⟨rfl, fun j hj => rfl⟩⟩
theorem Mm.cs_le (A : Mm) : A.cs ≤ 8 := by
  by_cases h : A.findE = 0
  · obtain ⟨⟨c, hc, _, c8⟩, _⟩ := find_bd h
    omega
  · have : A.findV = zs4 := by
      unfold Mm.findV
      unfold Mm.findE at h
      split
      · rename_i q
        rw [Bool.and_eq_true] at q
        rw [if_pos q.1, if_pos q.2] at h
        exact absurd rfl h
      · rfl
    unfold Mm.cs
    rw [this]
    decide
theorem Mm.rs_le (A : Mm) : A.rs.length ≤ 32 := A.rs_len A.cs_le
theorem new_boot (n : Nat) : bootE (Mm.new n fun _ _ => 0) = 20 ∧ bootM (Mm.new n fun _ _ => 0) = Mm.new n fun _ _ => 0 := by
  have hf : (Mm.new n fun _ _ => 0).findE = 20 := by
    have hon : (Mm.new n fun _ _ => 0).on = true := rfl
    unfold Mm.findE Mm.bestM
    rw [if_pos hon]
    have h0 : isS (rowOf ((Mm.new n fun _ _ => 0).l 0).has) = false := isS_nought _ (by rw [rowOf_get _ 7 (by decide)]; rfl)
    have h1 : isS (rowOf ((Mm.new n fun _ _ => 0).l 1).has) = false := isS_nought _ (by rw [rowOf_get _ 7 (by decide)]; rfl)
    unfold bestIs bestB
    rw [h0, h1]
    rfl
  have hne : (Mm.new n fun _ _ => 0).findE ≠ 0 := by rw [hf]; decide
  exact ⟨(if_neg hne).trans hf, if_neg hne⟩
/-- A new memory is made an image. -/
theorem new_fmt (n c : Nat) (h1 : 64 ≤ n) (h2 : n ≤ 1024) (l : List Ob) (hb : fmtB (c : Int) l = true) (hl : fromN c + cntO l + 8 ≤ n) :
    (fmtP (Mm.new n fun _ _ => 0) (c : Int) l).2 = 0 ∧ (∃ D, Su n (fmtP (Mm.new n fun _ _ => 0) (c : Int) l).1 D) ∧ Im n c (tabO (fromN c) l) (dirO (fromN c + cntO l)) (fun i => (l.getD i ob0).l) (fun _ => none) (fmtP (Mm.new n fun _ _ => 0) (c : Int) l).1 := by
  obtain ⟨e1, e2⟩ := (new_su n h1 h2).fmt (fun i => Nat.le_refl _) h1 h2 hb (by rw [Int.toNat_natCast]; exact hl)
  exact ⟨e1, ⟨_, e2⟩, Im.of_fmt hb h1 h2 hl e2⟩
theorem fmtP_okt {A : Mm} {B : Nat} (h : A.ok B) (c : Nat) (l : List Ob) (hl : ∀ j i, InU ((l.getD j ob0).l i)) : (fmtP A (c : Int) l).1.ok (B + (2 * fromN c + 9 * l.length + 85)) := by
  unfold fmtP
  split
  · split
    · exact ok_mono h (by omega)
    · rw [Int.toNat_natCast]
      refine ok_mono (andP_of (B := B + 2 * fromN c + 1 + (9 * l.length + 73)) (C := 11) (andP_of (B := B + 2 * fromN c + 1) (C := 9 * l.length + 73) (andP_of (B := B + 2 * fromN c) (C := 1) (wipeP_ok h _) fun D hD => feP_ok hD) fun D hD => ok_mono (wrtP_ok hD _ l hl) (by omega)) fun D hD => ok_writeZ hD _ _ _) (by omega)
  · exact ok_mono h (by omega)

end Go.Proofs.YtiafhcgaikapcaaGreat
