
/-
  revive's Boot: the image that counts comes back, or does not.
-/
import Derived.Test.YtiafhcgaikapcaaGreatIRead
import Derived.Test.YtiafhcgaikapcaaGreatIAgain
namespace Go.Proofs.YtiafhcgaikapcaaGreat
open Go.ChangeShapes Go.WideShapes Go.ChangeAt Go.RowKit Go.Joins
set_option maxRecDepth 10000
set_option linter.unusedVariables false
set_option linter.unusedSimpArgs false

theorem ld_may {A : Mm} {fr root : Int} (h : ldE A fr root = 0) (i : Nat) (hi : i < 49) : mayN (enAt (ldT A fr root) i) = true := by
  unfold ldE at h
  by_cases hon : A.on = true
  · rw [if_pos hon] at h
    by_cases hB : loadB A fr root = true
    · unfold ldT
      rw [if_pos ⟨hon, hB⟩]
      unfold tabA
      rw [rowE_at 49 _ _ hi]
      exact readX_l _ (((loadB_iff _ _ _).1 hB).2.1 (i / 7) (by omega)) _ (by omega)
    · rw [if_neg hB] at h; cases h
  · rw [if_neg hon] at h; cases h
theorem rd_ok {A : Mm} (hn : A.n ≤ 1024) (h : rdE A = 0) : (rdS A).ok ∧ ∀ i, i < 49 → mayN (A.tb i) = true := by
  unfold rdE at h
  by_cases q : A.n < A.fr
  · rw [if_pos q] at h; cases h
  rw [if_neg q] at h
  by_cases q2 : ldE A (A.fr : Int) A.rt = 0
  · have hm := fun i hi => ld_may q2 i hi
    refine ⟨ofS_ok (new_ok (by omega) hn) (fun i hi => ?_) _, hm⟩
    have := (mayN_iff _).1 (hm i hi)
    exact ⟨this.2.2.1, this.2.2.2.1⟩
  · rw [if_neg q2] at h; exact absurd h q2
/-- An image by value. -/
def imgV (p : Option Addr) (f0 f1 f2 f3 a n : Int) : Array Value := #[.pointer p, .int .i64 f0, .int .i64 f1, .int .i64 f2, .int .i64 f3, .int .i64 a, .int .i64 n]
def imgZ : Array Value := imgV none 0 0 0 0 0 0
theorem imgV_one (p : Option Addr) (f0 f1 f2 f3 a n : Int) : (imgV p f0 f1 f2 f3 a n).all (·.oneCell') = true := by simp [imgV, Value.oneCell']
theorem s7_img (p : Option Addr) (f0 f1 f2 f3 a n : Int) : (Tryz.prog.info? 111).map (·.size) = some (imgV p f0 f1 f2 f3 a n).size := by show _ = some 7; kernel_rfl
theorem zero_img : (Tryz.prog.info? 111).map (·.zero) = some (some (.agg imgZ)) := by kernel_rfl
theorem build_img0 : Tryz.prog.built 111 [] = some imgZ := by kernel_rfl
theorem build_img (p : Option Addr) (f0 f1 f2 f3 a n : Int) : Tryz.prog.built 111 [(0, .pointer p), (1, .agg #[.int .i64 f0, .int .i64 f1, .int .i64 f2, .int .i64 f3]), (2, .int .i64 a), (3, .int .i64 n)] = some (imgV p f0 f1 f2 f3 a n) := by kernel_rfl
theorem wpList_build4i {P : Program} {ops : Array Oper} {rest : List Oper} {o : Oper} {a : Act} {w : World} {Q : Exit → Act → World → Prop} (hg : o.guard = none) (t : TypeId) (x0 x1 x2 x3 : Operand) (ho : o.op = .build t #[(0, x0), (1, x1), (2, x2), (3, x3)]) (u0 u1 u2 u3 : Value) (h0 : a.eval x0 = u0) (h1 : a.eval x1 = u1) (h2 : a.eval x2 = u2) (h3 : a.eval x3 = u3) (cs : Array Value)
    (hb : P.built t [(0, u0), (1, u1), (2, u2), (3, u3)] = some cs) (h : wpList P ops Q rest (a.put o.dst (.agg cs)) w) : wpList P ops Q (o :: rest) a w := by
  subst h0 h1 h2 h3
  exact wpList_build hg t #[(0, x0), (1, x1), (2, x2), (3, x3)] ho (by simp [hb]) (by simpa [hb] using h)
theorem s7_img0 : (Tryz.prog.info? 111).map (·.size) = some imgZ.size := s7_img none 0 0 0 0 0 0
theorem imgZ_one : imgZ.all (·.oneCell') = true := imgV_one none 0 0 0 0 0 0
/-- What a Boot leaves. -/
def BoPost (W w : World) (m : Nat) (St : Mm → World → (Nat → Prop) → Prop) (A : Mm) (G : Nat → Prop) (e : Ending) (w' : World) : Prop :=
  if bootE A = 0 then ∃ b, e = .returned (.tuple #[.agg (imgV (some ⟨b, 0, none⟩) (A.findV.getD 0 0) A.rt A.sq A.cs A.findAt (bootN A)), .int .i64 0]) ∧ SHas W m b St (bootS A) (bootM A) w' G ∧ Same G w w'
  else Done (St (bootM A)) w G (.tuple #[.agg imgZ, .int .i64 (bootE A)]) e w'
theorem BoPost.no {W w w' : World} {m : Nat} {St : Mm → World → (Nat → Prop) → Prop} {A B : Mm} {G : Nat → Prop} {L : List (Nat × Obj)} {E : Int} (S : Stay W (St B)) (h : Held W (St B) w w' G L) (hE : bootE A = E) (hM : bootM A = B) (h0 : E ≠ 0) : BoPost W w m St A G (.returned (.tuple #[.agg imgZ, .int .i64 E])) w' := by
  subst hE hM
  unfold BoPost
  rw [if_neg h0]
  exact h.done S _
theorem BoPost.yes {W w w' : World} {m b : Nat} {St : Mm → World → (Nat → Prop) → Prop} {A : Mm} {G : Nat → Prop} {L : List (Nat × Obj)} {f0 f1 f2 f3 a n : Int} (S : Stay W (SHas W m b St (bootS A) (bootM A))) (h : Held W (SHas W m b St (bootS A) (bootM A)) w w' G L) (hE : bootE A = 0) (e : A.findV.getD 0 0 = f0 ∧ A.rt = f1 ∧ A.sq = f2 ∧ A.cs = f3 ∧ A.findAt = a ∧ bootN A = n) :
    BoPost W w m St A G (.returned (.tuple #[.agg (imgV (some ⟨b, 0, none⟩) f0 f1 f2 f3 a n), .int .i64 0])) w' := by
  obtain ⟨rfl, rfl, rfl, rfl, rfl, rfl⟩ := e
  unfold BoPost
  rw [if_pos hE]
  exact ⟨b, rfl, S.ls _ _ _ h.1 (fun k hk => Or.inl hk), h.2.2⟩

theorem QSt.noS {W w : World} {m b : Nat} {St : Mm → World → (Nat → Prop) → Prop} {S : Sto} {A : Mm} {G : Nat → Prop} (h : SHas W m b St S A w G) : St A w (fun k => G k ∨ k = b) := h.st
set_option maxHeartbeats 16000000 in
theorem imboot_any {W w : World} {m : Nat} {St : Mm → World → (Nat → Prop) → Prop} {A : Mm} {G : Nat → Prop} (M : MemI W m St) (h : St A w G) (B : Nat) (hA : A.ok B) (hB : B + 8 * A.rs.length ≤ 800) :
    Calls Tryz.prog 56 #[.pointer (some ⟨m, 0, none⟩)] w (BoPost W w m St A G) := by
  have HM := hide M
  have T0 := hide (M.stay A)
  have O0 := hide ((Held.start (unhide T0) h).alloc (unhide T0) (.cells imgZ 111))
  obtain ⟨f0, f1, f2, f3, hfv⟩ : ∃ f0 f1 f2 f3, A.findV = [f0, f1, f2, f3] := by
    have hl := findV_len A
    match A.findV, hl with
    | [a, b, c, d], _ => exact ⟨a, b, c, d, rfl⟩
  have CF := hide (fun (w' : World) (G' : Nat → Prop) (h' : St A w' G') => M.find w' G' A h' (ok_mono hA (by omega)))
  have ZI := hide zero_img
  obtain ⟨g2, hg2⟩ : ∃ g, g = w.heap.size := ⟨_, rfl⟩
  rw [← hg2] at O0
  have EV : Hid (Value.agg (iv .i64 A.findV) = .agg #[.int .i64 f0, .int .i64 f1, .int .i64 f2, .int .i64 f3]) := by show _ = _; rw [hfv]; rfl
  rw [unhide EV] at CF
  have HFE : Hid (A.findE ≠ 0 → bootE A = A.findE ∧ bootM A = A) := fun q => ⟨if_neg q, if_neg q⟩
  have HRE : Hid (A.findE = 0 → rdE A ≠ 0 → bootE A = rdE A ∧ bootM A = A) := fun q1 q2 => ⟨(if_pos q1).trans (if_neg q2), (if_pos q1).trans (if_neg q2)⟩
  have HBE : Hid (A.findE = 0 → rdE A = 0 → bootE A = (rd2 A A.rs.length).2.2 ∧ bootM A = (rd2 A A.rs.length).2.1) := fun q1 q2 => ⟨(if_pos q1).trans (if_pos q2), (if_pos q1).trans (if_pos q2)⟩
  by_cases hf : A.findE = 0
  · obtain ⟨⟨c, hc, c1, c8⟩, hrt, hsq, hv⟩ := find_bd hf
    have hon := (find_may hf).1
    obtain ⟨e1, e2, e3, e4⟩ : f0 = A.findV.getD 0 0 ∧ f1 = A.rt ∧ f2 = A.sq ∧ f3 = A.cs := by unfold Mm.rt Mm.sq Mm.cs; rw [hfv]; exact ⟨rfl, rfl, rfl, rfl⟩
    have hv2 : A.findV = [f0, A.rt, A.sq, A.cs] := by rw [hfv, e2, e3, e4]
    have CR := hide (fun (w' : World) (G' : Nat → Prop) (h' : St A w' G') => imread_any M h' (ok_mono hA (by omega)) hf f0 hv2)
    have CD := hide (fun (w' : World) (G' : Nat → Prop) (b : Nat) (h' : SHas W m b St (rdS A) A w' G') (hS : (rdS A).ok) => imredo_any M h' hS B hA hB hon c hc c1 c8 f0 A.rt hsq)
    rw [← e2, ← e3, ← e4] at CR
    rw [← e2, ← e3] at CD
    have E4 : Hid (f3 = (c : Int)) := e4.trans hc
    rw [← unhide E4] at CD
    have HSOK : Hid (rdE A = 0 → (rdS A).ok) := fun h0 => (rd_ok hA.2.1 h0).1
    have HR1 := hide (unhide HRE hf)
    have HB1 := hide (unhide HBE hf)
    have HP : Hid (∀ e w', ReP W m 0 St (rd2 A 0) 0 w' (fun _ => False) e w' → True) := fun _ _ _ => trivial
    have EALL : Hid (A.findV.getD 0 0 = f0 ∧ A.rt = f1 ∧ A.sq = f2 ∧ A.cs = f3) := ⟨e1.symm, e2.symm, e3.symm, e4.symm⟩
    have HFA : Hid (A.findAt = A.findAt) := rfl
    rw [hf] at CF
    have HBS : Hid (bootS A = (rd2 A A.rs.length).1) := rfl
    have HBN : Hid (bootN A = grQ f2 A.rs A.rs.length + 1) := by rw [e3]; exact rfl
    have HR2 : Hid (∀ n, redP (rdS A).w f2 A.rs (rdS A) A n = rd2 A n) := fun _ => by rw [e3]; exact rfl
    clear h M hA hB hf HFE HRE HBE hfv EV hon hrt hsq hv hv2 e1 e2 e3 e4 hc HP HFA E4
    obtain ⟨FA, hFA⟩ : ∃ FA, FA = A.findAt := ⟨_, rfl⟩
    rw [← hFA] at CF
    have HFA := hide hFA
    clear hFA
    go_enter Tryz.func56, Tryz.ntmps56
    go_upto_region 1 with (with_reducible refine wpList_allocZ (by with_unfolding_all rfl) 111 (by with_unfolding_all rfl) imgZ (unhide ZI) ?_)
    rw [← hg2]
    clear hg2 ZI
    generalize w.alloc (.cells imgZ 111) = w1 at *
    go_wp2_with fail
    refine (unhide CF _ _ (unhide O0).st).mono ?_
    rintro e w2 ⟨rfl, h1, h2⟩
    have O1 := hide (((unhide O0).call (St' := St A) h1 h2).alloc (unhide T0) (.cells #[.int .i64 f0, .int .i64 f1, .int .i64 f2, .int .i64 f3] 49))
    obtain ⟨g4, hg4⟩ : ∃ g, g = w2.heap.size := ⟨_, rfl⟩
    rw [← hg4] at O1
    clear h1 h2 O0 CF
    go_upto_region 2 with fail
    rw [← hg4]
    clear hg4
    generalize w2.alloc (.cells #[.int .i64 f0, .int .i64 f1, .int .i64 f2, .int .i64 f3] 49) = w3 at *
    go_upto_region 4 with fail
    have K4 := hide ((unhide O1).at g4 (.cells #[.int .i64 f0, .int .i64 f1, .int .i64 f2, .int .i64 f3] 49) (by simp))
    have s4 : (Tryz.prog.info? 49).map (·.size) = some (#[Value.int .i64 f0, .int .i64 f1, .int .i64 f2, .int .i64 f3] : Array Value).size := by show _ = some 4; kernel_rfl
    go_wp2_with (with_reducible refine wpList_load_row (by with_unfolding_all rfl) 49 _ (by with_unfolding_all rfl) g4 (by with_unfolding_all rfl) _ _ _ _ (unhide K4) Tryz.underlying49 (by with_unfolding_all rfl) s4 ?_)
    refine (unhide CR _ _ (unhide O1).st).mono ?_
    intro e w4 hq
    unfold IrPost at hq
    clear K4
    by_cases hr : rdE A = 0
    · rw [if_pos hr] at hq
      obtain ⟨b, rfl, h1, h2⟩ := hq
      have O2 := hide ((unhide O1).call (St' := SHas W m b St (rdS A) A) h1 h2)
      have CE := hide (unhide CD _ _ b (unhide O2).st (unhide HSOK hr))
      rw [unhide HR2] at CE
      have E2 := hide (unhide HB1 hr)
      clear h1 h2 O1 CR CD HSOK HR1 HB1 hr HR2
      go_upto_region 7 with fail
      have K4 := hide ((unhide O2).at g4 (.cells #[.int .i64 f0, .int .i64 f1, .int .i64 f2, .int .i64 f3] 49) (by simp))
      go_wp2_with (with_reducible refine wpList_load_row (by with_unfolding_all rfl) 49 _ (by with_unfolding_all rfl) g4 (by with_unfolding_all rfl) _ _ _ _ (unhide K4) Tryz.underlying49 (by with_unfolding_all rfl) s4 ?_)
      refine (unhide CE).mono ?_
      rintro e w5 ⟨z, rfl, hz, h1, h2⟩
      have O3 := hide ((unhide O2).call (St' := SHas W m b St (rd2 A A.rs.length).1 (rd2 A A.rs.length).2.1) h1 h2)
      have HZ := hide hz
      clear h1 h2 hz O2 CE K4
      by_cases h0 : (rd2 A A.rs.length).2.2 = 0
      · have E3 : Hid (bootE A = 0) := (unhide E2).1.trans h0
        have HZ1 := hide (unhide HZ h0)
        rw [h0]
        rw [← unhide HBS, ← (unhide E2).2] at O3
        rw [← unhide HBN] at HZ1
        clear h0 E2 HZ HBS HBN
        go_upto_region 10 with fail
        have K4 := hide ((unhide O3).at g4 (.cells #[.int .i64 f0, .int .i64 f1, .int .i64 f2, .int .i64 f3] 49) (by simp))
        have K2 := hide ((unhide O3).at g2 (.cells imgZ 111) (by simp))
        have BI := hide (build_img (some ⟨b, 0, none⟩) f0 f1 f2 f3 FA z)
        have SI := hide (s7_img (some ⟨b, 0, none⟩) f0 f1 f2 f3 FA z)
        have XI := hide (imgV_one (some ⟨b, 0, none⟩) f0 f1 f2 f3 FA z)
        have SZI : Hid (imgZ.size = (imgV (some ⟨b, 0, none⟩) f0 f1 f2 f3 FA z).size) := rfl
        have KZ : Hid ((w5.setRow g2 (imgV (some ⟨b, 0, none⟩) f0 f1 f2 f3 FA z)).heap[g2]? = some (.cells (imgV (some ⟨b, 0, none⟩) f0 f1 f2 f3 FA z) 111 (0, 0))) := setRow_heap _ _ _ _ _ _ (unhide K2)
        have O4 := hide ((unhide O3).row (SHas.stay (unhide HM).toMemL b _ _) g2 imgZ 111 (0, 0) (by simp) (imgV (some ⟨b, 0, none⟩) f0 f1 f2 f3 FA z))
        have HVV : Hid (imgV (some ⟨b, 0, none⟩) f0 f1 f2 f3 FA z = imgV (some ⟨b, 0, none⟩) f0 f1 f2 f3 FA z) := rfl
        obtain ⟨IV, hIV⟩ : ∃ IV, IV = imgV (some ⟨b, 0, none⟩) f0 f1 f2 f3 FA z := ⟨_, rfl⟩
        rw [← hIV] at BI SI XI SZI KZ O4
        have HIV := hide hIV
        clear hIV HVV
        go_wp2_with (first | (with_reducible refine wpList_load_row (by with_unfolding_all rfl) 49 _ (by with_unfolding_all rfl) g4 (by with_unfolding_all rfl) _ _ _ _ (unhide K4) Tryz.underlying49 (by with_unfolding_all rfl) s4 ?_) | (with_reducible refine wpList_build4i (by with_unfolding_all rfl) 111 _ _ _ _ (by with_unfolding_all rfl) (.pointer (some ⟨b, 0, none⟩)) (.agg #[.int .i64 f0, .int .i64 f1, .int .i64 f2, .int .i64 f3]) (.int .i64 FA) (.int .i64 z) (by with_unfolding_all rfl) (by with_unfolding_all rfl) (by with_unfolding_all rfl) (by with_unfolding_all rfl) _ (unhide BI) ?_) | (with_reducible refine wpList_store_row (by with_unfolding_all rfl) 111 _ _ (by with_unfolding_all rfl) g2 IV (by with_unfolding_all rfl) (by with_unfolding_all rfl) _ _ (unhide K2) (unhide SI) (unhide SZI) (unhide XI) ?_))
        refine bodyPost_ret (v := .tuple #[.agg IV, .int .i64 0]) (results_two Tryz.results56 _ _ g2 111 IV (0, 0) _ _ rfl rfl (unhide KZ) Tryz.underlying111 rfl (unhide SI)) rfl ?_
        rw [unhide HIV]
        rw [unhide HIV] at O4
        exact BoPost.yes (SHas.stay (unhide HM).toMemL b _ _) (unhide O4) (unhide E3) ⟨(unhide EALL).1, (unhide EALL).2.1, (unhide EALL).2.2.1, (unhide EALL).2.2.2, (unhide HFA).symm, (unhide HZ1).symm⟩
      · have hb1 : ((rd2 A A.rs.length).2.2 == 0) = false := by simpa using h0
        have hb2 : ((rd2 A A.rs.length).2.2 != 0) = true := by simpa using h0
        have HNZ := hide h0
        clear h0 HZ HBS HBN
        generalize (rd2 A A.rs.length).1 = S9 at *
        generalize (rd2 A A.rs.length).2.1 = A9 at *
        generalize (rd2 A A.rs.length).2.2 = E9 at *
        go_upto_region 9 with fail
        have OX := O3
        clear O3
        obtain ⟨wx, hwx⟩ : ∃ wx, wx = w5 := ⟨_, rfl⟩
        rw [← hwx] at OX ⊢
        clear hwx
        have K2 := hide ((unhide OX).at g2 (.cells imgZ 111) (by simp))
        have KZ : Hid ((wx.setRow g2 imgZ).heap[g2]? = some (.cells imgZ 111 (0, 0))) := setRow_heap _ _ _ _ _ _ (unhide K2)
        go_wp2_with (first | (with_reducible refine wpList_build0 (by with_unfolding_all rfl) 111 (by with_unfolding_all rfl) imgZ build_img0 ?_) | (with_reducible refine wpList_store_row (by with_unfolding_all rfl) 111 _ _ (by with_unfolding_all rfl) g2 imgZ (by with_unfolding_all rfl) (by with_unfolding_all rfl) _ _ (unhide K2) s7_img0 rfl imgZ_one ?_))
        refine bodyPost_ret (v := .tuple #[.agg imgZ, .int .i64 E9]) (results_two Tryz.results56 _ _ g2 111 imgZ (0, 0) _ _ rfl rfl (unhide KZ) Tryz.underlying111 rfl s7_img0) rfl ?_
        have OY := (unhide OX).row (SHas.stay (unhide HM).toMemL b _ _) g2 imgZ 111 (0, 0) (by simp) imgZ
        have OZ : Held W (St A9) w _ G [] := ⟨((unhide HM).stay A9).ls _ _ _ (QSt.noS OY.1) (fun k hk => by rcases hk with hk | ⟨o, hk⟩; exact Or.inl (Or.inl hk); cases hk), by simp, OY.2.2⟩
        exact BoPost.no ((unhide HM).stay A9) OZ (unhide E2).1 (unhide E2).2 (unhide HNZ)
    · rw [if_neg hr] at hq
      obtain ⟨rfl, h1, h2⟩ := hq
      have O2 := hide ((unhide O1).call (St' := St A) h1 h2)
      have E2 := hide (unhide HR1 hr)
      have hb1 : (rdE A == 0) = false := by simpa using hr
      have hb2 : (rdE A != 0) = true := by simpa using hr
      have HNZ := hide hr
      clear h1 h2 O1 CR CD HSOK HR1 HB1 hr
      generalize rdE A = RE at *
      go_upto_region 6 with fail
      have OX := O2
      clear O2
      obtain ⟨wx, hwx⟩ : ∃ wx, wx = w4 := ⟨_, rfl⟩
      rw [← hwx] at OX ⊢
      clear hwx
      have K2 := hide ((unhide OX).at g2 (.cells imgZ 111) (by simp))
      have KZ : Hid ((wx.setRow g2 imgZ).heap[g2]? = some (.cells imgZ 111 (0, 0))) := setRow_heap _ _ _ _ _ _ (unhide K2)
      go_wp2_with (first | (with_reducible refine wpList_build0 (by with_unfolding_all rfl) 111 (by with_unfolding_all rfl) imgZ build_img0 ?_) | (with_reducible refine wpList_store_row (by with_unfolding_all rfl) 111 _ _ (by with_unfolding_all rfl) g2 imgZ (by with_unfolding_all rfl) (by with_unfolding_all rfl) _ _ (unhide K2) s7_img0 rfl imgZ_one ?_))
      refine bodyPost_ret (v := .tuple #[.agg imgZ, .int .i64 RE]) (results_two Tryz.results56 _ _ g2 111 imgZ (0, 0) _ _ rfl rfl (unhide KZ) Tryz.underlying111 rfl s7_img0) rfl ?_
      exact BoPost.no (unhide T0) ((unhide OX).row (unhide T0) g2 imgZ 111 (0, 0) (by simp) imgZ) (unhide E2).1 (unhide E2).2 (unhide HNZ)
  · have HF := hide hf
    have E1 := hide (unhide HFE hf)
    have hb1 : (A.findE == 0) = false := by simpa using hf
    have hb2 : (A.findE != 0) = true := by simpa using hf
    clear h M hA hB hf HFE HRE HBE hfv EV
    generalize A.findE = FE at *
    generalize A.findAt = FA at *
    go_enter Tryz.func56, Tryz.ntmps56
    go_upto_region 1 with (with_reducible refine wpList_allocZ (by with_unfolding_all rfl) 111 (by with_unfolding_all rfl) imgZ (unhide ZI) ?_)
    rw [← hg2]
    clear hg2 ZI
    generalize w.alloc (.cells imgZ 111) = w1 at *
    go_wp2_with fail
    refine (unhide CF _ _ (unhide O0).st).mono ?_
    rintro e w2 ⟨rfl, h1, h2⟩
    have O1 := hide (((unhide O0).call (St' := St A) h1 h2).alloc (unhide T0) (.cells #[.int .i64 f0, .int .i64 f1, .int .i64 f2, .int .i64 f3] 49))
    clear h1 h2 O0 CF
    go_upto_region 3 with fail
    have OX := O1
    clear O1
    generalize hwx : w2.alloc (.cells #[.int .i64 f0, .int .i64 f1, .int .i64 f2, .int .i64 f3] 49) = wx at *
    clear hwx
    have K2 := hide ((unhide OX).at g2 (.cells imgZ 111) (by simp))
    have KZ : Hid ((wx.setRow g2 imgZ).heap[g2]? = some (.cells imgZ 111 (0, 0))) := setRow_heap _ _ _ _ _ _ (unhide K2)
    go_wp2_with (first | (with_reducible refine wpList_build0 (by with_unfolding_all rfl) 111 (by with_unfolding_all rfl) imgZ build_img0 ?_) | (with_reducible refine wpList_store_row (by with_unfolding_all rfl) 111 _ _ (by with_unfolding_all rfl) g2 imgZ (by with_unfolding_all rfl) (by with_unfolding_all rfl) _ _ (unhide K2) s7_img0 rfl imgZ_one ?_))
    refine bodyPost_ret (v := .tuple #[.agg imgZ, .int .i64 FE]) (results_two Tryz.results56 _ _ g2 111 imgZ (0, 0) _ _ rfl rfl (unhide KZ) Tryz.underlying111 rfl s7_img0) rfl ?_
    exact BoPost.no (unhide T0) ((unhide OX).row (unhide T0) g2 imgZ 111 (0, 0) (by simp) imgZ) (unhide E1).1 (unhide E1).2 (unhide HF)

end Go.Proofs.YtiafhcgaikapcaaGreat
