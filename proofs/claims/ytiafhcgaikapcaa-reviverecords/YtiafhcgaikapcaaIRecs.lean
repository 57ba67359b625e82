
/-
  For every record r, ReviveRecords returns true and leaves its argument as it was: a record is done again just if its number is above the superblock's and its object is a page, and the next number is one more than the greatest. No condition.
-/
import Derived.Test.YtiafhcgaikapcaaIShown
import Derived.Test.YtiafhcgaikapcaaPkScan
import Derived.Test.YtiafhcgaikapcaaRows
import Derived.Great.BuildSlice
import Derived.Deep.Cut
namespace Go.Proofs.Ytiafhcgaikapcaa.reviveRecords
open Go.Proofs.Ytiafhcgaikapcaa
open Go.ChangeShapes Go.WideShapes Go.ChangeAt Go.RowKit Go.Joins
set_option maxRecDepth 100000
set_option linter.unusedVariables false
set_option linter.unusedSimpArgs false

theorem block_lt {w : World} {g : Nat} {o : Obj} (h : w.heap[g]? = some o) : g < w.heap.size := by
  rcases Nat.lt_or_ge g w.heap.size with q | q
  · exact q
  · rw [Array.getElem?_eq_none q] at h; cases h
def lo3 : List Ob := [⟨1, 0, fun _ => 0⟩, ⟨2, 0, fun _ => 0⟩, ⟨3, 0, fun _ => 0⟩]

def zo : Nat → Int := fun _ => 0
def obs3 : Array Value := obV 1 0 zo ++ obV 2 0 zo ++ obV 3 0 zo
theorem fill3 : Instr.fill (fun i => some (i * 10, 10)) ((Array.range (3 * 10)).map ((Value.agg (obV 0 0 zo)).cells[· % (Value.agg (obV 0 0 zo)).cells.size]!)) [(0, .agg (obV 1 0 zo)), (1, .agg (obV 2 0 zo)), (2, .agg (obV 3 0 zo))] = some obs3 := by kernel_rfl
theorem info_ob : (Try.prog.info? 33).map (fun i => (i.zero, i.size)) = some (some (.agg (obV 0 0 zo)), 10) := by kernel_rfl
theorem wpList_slice3 {ops : Array Oper} {rest : List Oper} {o : Oper} {a : Act} {w : World} {Q : Exit → Act → World → Prop} (hg : o.guard = none) (x0 x1 x2 : Operand) (ho : o.op = .buildSlice 34 3 #[(0, x0), (1, x1), (2, x2)]) (h0 : a.eval x0 = .agg (obV 1 0 zo)) (h1 : a.eval x1 = .agg (obV 2 0 zo)) (h2 : a.eval x2 = .agg (obV 3 0 zo))
    (h : wpList Try.prog ops Q rest (a.put o.dst (.slice (some ⟨w.heap.size, 0, none⟩) 3 3)) (w.alloc (.cells obs3 33))) : wpList Try.prog ops Q (o :: rest) a w := by
  have hi := info_ob
  cases hie : Try.prog.info? 33 with
  | none => rw [hie] at hi; cases hi
  | some ie =>
    rw [hie] at hi
    obtain ⟨hz, hs⟩ : ie.zero = some (.agg (obV 0 0 zo)) ∧ ie.size = 10 := by
      have := Option.some.inj hi
      exact ⟨(Prod.mk.inj this).1, (Prod.mk.inj this).2⟩
    refine wpList_buildSlice hg 34 33 3 _ ho obs3 ie _ Try.underlying34 hie hz (by rw [hs]; decide) (by rw [hs]; decide) ?_ h
    rw [hs]
    have e : (#[((0 : Nat), x0), (1, x1), (2, x2)].map fun (i, x) => (i, a.eval x)).toList = [(0, .agg (obV 1 0 zo)), (1, .agg (obV 2 0 zo)), (2, .agg (obV 3 0 zo))] := by simp [h0, h1, h2]
    rw [e]
    exact fill3
theorem obs3_at {w : World} {g : Nat} {t : TypeId} (h : w.heap[g]? = some (.cells obs3 t (0, 0))) : ObsAt w (some ⟨g, 0, none⟩) lo3 := Or.inr ⟨g, 0, rfl, fun i hi j v hv => by
  rw [cell_of_block h]
  have hj : j < 10 := by
    rcases Nat.lt_or_ge j 10 with q | q
    · exact q
    · rw [List.getElem?_eq_none (by rw [obC_len]; exact q)] at hv; cases hv
  have key : ∀ i j : Nat, i < 3 → j < 10 → obs3[0 + i * 10 + j]? = (obC (lo3.getD i ob0))[j]? := by
    intro i j hi hj
    have key2 : ∀ i : Fin 3, ∀ j : Fin 10, obs3[0 + i.val * 10 + j.val]? = (obC (lo3.getD i.val ob0))[j.val]? := by
      intro i j
      match i, j with
      | ⟨0, _⟩, ⟨0, _⟩ => rfl
      | ⟨0, _⟩, ⟨1, _⟩ => rfl
      | ⟨0, _⟩, ⟨2, _⟩ => rfl
      | ⟨0, _⟩, ⟨3, _⟩ => rfl
      | ⟨0, _⟩, ⟨4, _⟩ => rfl
      | ⟨0, _⟩, ⟨5, _⟩ => rfl
      | ⟨0, _⟩, ⟨6, _⟩ => rfl
      | ⟨0, _⟩, ⟨7, _⟩ => rfl
      | ⟨0, _⟩, ⟨8, _⟩ => rfl
      | ⟨0, _⟩, ⟨9, _⟩ => rfl
      | ⟨1, _⟩, ⟨0, _⟩ => rfl
      | ⟨1, _⟩, ⟨1, _⟩ => rfl
      | ⟨1, _⟩, ⟨2, _⟩ => rfl
      | ⟨1, _⟩, ⟨3, _⟩ => rfl
      | ⟨1, _⟩, ⟨4, _⟩ => rfl
      | ⟨1, _⟩, ⟨5, _⟩ => rfl
      | ⟨1, _⟩, ⟨6, _⟩ => rfl
      | ⟨1, _⟩, ⟨7, _⟩ => rfl
      | ⟨1, _⟩, ⟨8, _⟩ => rfl
      | ⟨1, _⟩, ⟨9, _⟩ => rfl
      | ⟨2, _⟩, ⟨0, _⟩ => rfl
      | ⟨2, _⟩, ⟨1, _⟩ => rfl
      | ⟨2, _⟩, ⟨2, _⟩ => rfl
      | ⟨2, _⟩, ⟨3, _⟩ => rfl
      | ⟨2, _⟩, ⟨4, _⟩ => rfl
      | ⟨2, _⟩, ⟨5, _⟩ => rfl
      | ⟨2, _⟩, ⟨6, _⟩ => rfl
      | ⟨2, _⟩, ⟨7, _⟩ => rfl
      | ⟨2, _⟩, ⟨8, _⟩ => rfl
      | ⟨2, _⟩, ⟨9, _⟩ => rfl
    exact key2 ⟨i, hi⟩ ⟨j, hj⟩
  rw [key i j hi hj]; exact hv⟩
theorem build_ob1 (k : Int) : Try.prog.built 33 [(0, .int .i64 k)] = some (obV k 0 zo) := by kernel_rfl
def wN (d o v : Int) (i : Nat) : Nat → Int := if i = 0 ∧ d = 0 then upd zo o.toNat v else zo
theorem tb3 : ∀ i : Nat, i < 3 → (tabO (fromN 1) lo3 i).k = (i : Int) + 1 ∧ (tabO (fromN 1) lo3 i).v = 0 ∧ (lo3.getD i ob0).l = zo := fun i hi => by
  match i, hi with
  | 0, _ => exact ⟨rfl, rfl, rfl⟩
  | 1, _ => exact ⟨rfl, rfl, rfl⟩
  | 2, _ => exact ⟨rfl, rfl, rfl⟩
theorem rc_words (q d o v : Int) (hq : 1 ≤ q) (hd : 0 ≤ d) (i : Nat) (hi : i < 3) : redC (tabO (fromN 1) lo3) 0 [⟨q, d, o, v⟩] (fun i => (lo3.getD i ob0).l) 1 i = wN d o v i := by
  show (if redB (tabO (fromN 1) lo3) 0 ⟨q, d, o, v⟩ = true then upd (fun i => (lo3.getD i ob0).l) d.toNat (upd ((lo3.getD d.toNat ob0).l) o.toNat v) else fun i => (lo3.getD i ob0).l) i = _
  have hrb : redB (tabO (fromN 1) lo3) 0 ⟨q, d, o, v⟩ = true ↔ d = 0 := by
    unfold redB
    rw [Bool.and_eq_true, decide_eq_true_iff, decide_eq_true_iff]
    constructor
    · rintro ⟨_, h⟩
      have h' : (tabO (fromN 1) lo3 d.toNat).k = 1 := h
      rcases Nat.lt_or_ge d.toNat 3 with c | c
      · rw [(tb3 _ c).1] at h'; omega
      · have : tabO (fromN 1) lo3 d.toNat = ze := if_neg (by show ¬ d.toNat < 3; omega)
        rw [this] at h'; cases h'
    · rintro rfl
      exact ⟨by show (0 : Int) < q; omega, rfl⟩
  unfold wN
  by_cases h0 : d = 0
  · rw [if_pos (hrb.2 h0)]
    subst h0
    by_cases hi0 : i = 0
    · subst hi0
      rw [if_pos ⟨rfl, rfl⟩]
      show upd _ 0 _ 0 = _
      rw [upd_same]; rfl
    · rw [if_neg (fun c => hi0 c.1)]
      show upd _ 0 _ i = _
      rw [upd_other _ _ _ _ hi0]
      exact (tb3 i hi).2.2
  · rw [if_neg (fun c => h0 (hrb.1 c)), if_neg (fun c => h0 c.2)]
    exact (tb3 i hi).2.2
theorem zero_lnI : (Try.prog.info? 31).map (·.zero) = some (some (.agg (lnV fun _ => 0))) := by kernel_rfl
set_option maxHeartbeats 16000000 in
theorem walk (r : Rc) (hr : IsRec r) (W : World) : Calls Try.prog 3 #[.agg (rv r)] W fun e w' => e = .returned (.bool true) ∧ Below W.heap.size W w' := by
  obtain ⟨q, d, o, v⟩ := r
  have HR := hide hr
  have K0 := hide ((Keeps.refl (fun _ => False) W).alloc (.cells #[.int .i64 q, .int .i64 d, .int .i64 o, .int .u64 v] 24))
  obtain ⟨g1, hg1⟩ : ∃ g, g = W.heap.size := ⟨_, rfl⟩
  have B0 := hide (heap_new W (.cells #[.int .i64 q, .int .i64 d, .int .i64 o, .int .u64 v] 24))
  rw [← hg1] at B0
  have HG1 := hide hg1
  show Calls Try.prog 3 #[.agg #[.int .i64 q, .int .i64 d, .int .i64 o, .int .u64 v]] W _
  clear hr
  go_enter Try.func3, Try.ntmps3
  go_upto_region 1 with fail
  rw [← hg1]
  clear hg1
  generalize W.alloc (.cells #[.int .i64 q, .int .i64 d, .int .i64 o, .int .u64 v] 24) = w0 at *
  go_wp2_with fail
  refine (ishown_any w0).mono ?_
  rintro e w1 ⟨rfl, hk⟩
  have K1 := hide ((unhide K0).trans' hk)
  have B1 := hide ((hk.block g1 (block_lt (unhide B0)) id).trans (unhide B0))
  clear hk K0 B0
  go_wp2_with fail
  refine (new_any w1 64 (by decide) (by decide)).mono ?_
  intro e w2 hm
  obtain ⟨m, rfl, h0, hs0⟩ := made_has W (unhide K1) hm (fun k => k = g1) (fun k hk => by rw [hk]; exact block_lt (unhide B1))
  have M := hide (Has.memI W m)
  obtain ⟨A0, hA0⟩ : ∃ A, A = Mm.new 64 (fun _ _ => 0) := ⟨_, rfl⟩
  rw [← hA0] at h0
  have HA0 := hide hA0
  have O0 := hide (Held.start ((unhide M).stay A0) h0)
  have HK0 : Hid (A0.ok 0) := by rw [hA0]; exact new0_ok 64 (by decide) (by decide)
  have B2 := hide ((hs0 g1 rfl).trans (unhide B1))
  clear hm h0 hA0 hs0 K1 B1
  go_upto_region 5 with fail
  have BO1 := hide (build_ob1 1)
  have BO2 := hide (build_ob1 2)
  have BO3 := hide (build_ob1 3)
  have OV := hide ((unhide O0).alloc ((unhide M).stay A0) (.cells obs3 33))
  go_upto_region 6 with (first | (with_reducible refine wpList_build1 (by with_unfolding_all rfl) 33 0 _ (by with_unfolding_all rfl) (.int .i64 1) (by with_unfolding_all rfl) _ (unhide BO1) ?_) | (with_reducible refine wpList_build1 (by with_unfolding_all rfl) 33 0 _ (by with_unfolding_all rfl) (.int .i64 2) (by with_unfolding_all rfl) _ (unhide BO2) ?_) | (with_reducible refine wpList_build1 (by with_unfolding_all rfl) 33 0 _ (by with_unfolding_all rfl) (.int .i64 3) (by with_unfolding_all rfl) _ (unhide BO3) ?_) | (with_reducible refine wpList_slice3 (by with_unfolding_all rfl) (.tmp 24) (.tmp 25) (.tmp 26) (by with_unfolding_all rfl) (by with_unfolding_all rfl) (by with_unfolding_all rfl) (by with_unfolding_all rfl) ?_))
  obtain ⟨gs, hgs⟩ : ∃ g, g = w2.heap.size := ⟨_, rfl⟩
  rw [← hgs] at OV ⊢
  clear hgs O0 BO1 BO2 BO3
  generalize w2.alloc (.cells obs3 33) = w4 at *
  have HIN1 : ∀ x ∈ lo3, ObIn x := fun x hx => by
    have h0 : InU 0 := ⟨by decide, by decide⟩
    rcases List.mem_cons.1 hx with rfl | hx
    · exact ⟨⟨by decide, by decide⟩, ⟨by decide, by decide⟩, fun j => h0⟩
    rcases List.mem_cons.1 hx with rfl | hx
    · exact ⟨⟨by decide, by decide⟩, ⟨by decide, by decide⟩, fun j => h0⟩
    rcases List.mem_cons.1 hx with rfl | hx
    · exact ⟨⟨by decide, by decide⟩, ⟨by decide, by decide⟩, fun j => h0⟩
    · cases hx
  have HIU : ∀ j i, InU ((lo3.getD j ob0).l i) := fun j i => by
    match j with
    | 0 => show InU 0; exact ⟨by decide, by decide⟩
    | 1 => show InU 0; exact ⟨by decide, by decide⟩
    | 2 => show InU 0; exact ⟨by decide, by decide⟩
    | j + 3 => show InU 0; exact ⟨by decide, by decide⟩
  obtain ⟨F1, F2, F3⟩ := new_fmt 64 1 (by decide) (by decide) lo3 (by decide) (by decide)
  have KF := fmtP_okt (new0_ok 64 (by decide) (by decide)) 1 lo3 HIU
  rw [← unhide HA0] at F1 F2 F3 KF
  have CF := hide (format_any (unhide M) (unhide OV).st (ok_mono (unhide HK0) (by omega)) 1 (some ⟨gs, 0, none⟩) 3 lo3 (by decide) HIN1 (fun w' hk hs => obs3_at ((hs gs (Or.inr ⟨_, List.mem_cons_self⟩)).trans ((unhide OV).at gs (.cells obs3 33) (by simp)))))
  have F1' : (fmtP A0 1 lo3).2 = 0 := F1
  rw [F1'] at CF
  obtain ⟨A1, hA1⟩ : ∃ A, A = (fmtP A0 1 lo3).1 := ⟨_, rfl⟩
  have hA1' : (fmtP A0 ((1 : Nat) : Int) lo3).1 = A1 := hA1.symm
  rw [hA1'] at F2 F3 KF
  rw [← hA1] at CF
  have HI1 := hide F3
  have HS1 := hide F2
  have HK1 : Hid (A1.ok 124) := ok_mono KF (by decide)
  clear hA1 hA1' KF F1 F2 F3 F1' HIN1 HIU HK0 HA0
  have CF2 : Hid (Calls Try.prog 6 #[.pointer (some ⟨m, 0, none⟩), .int .i64 1, .slice (some ⟨gs, 0, none⟩) 3 3] w4 _) := unhide CF
  clear CF
  go_wp2_with fail
  refine (unhide CF2).mono ?_
  rintro e w5 ⟨rfl, h1, h2⟩
  have O2 := hide (((unhide OV).call (St' := fun w G => Has W w G m A1) h1 h2).less ((unhide M).stay A1) (L' := []) (by simp))
  clear h1 h2 CF2 OV
  have B5 : Hid (w5.heap[g1]? = some (.cells #[.int .i64 q, .int .i64 d, .int .i64 o, .int .u64 v] 24 (0, 0))) := ((unhide O2).2.2 g1 rfl).trans (unhide B2)
  obtain ⟨D1, hD1⟩ := unhide HS1
  have CA := hide ((unhide O2).st.appR (ok_mono (unhide HK1) (by omega)) 0 0 ⟨q, d, o, v⟩ (isRec_ok (unhide HR)))
  have s4 : (Try.prog.info? 24).map (·.size) = some (#[Value.int .i64 q, .int .i64 d, .int .i64 o, .int .u64 v] : Array Value).size := by show _ = some 4; kernel_rfl
  by_cases hm : mayR ⟨q, d, o, v⟩ = true
  · skip
    obtain ⟨m1, m2, m3, m4, m5, m6⟩ := (mayR_iff _).1 hm
    simp only at m1 m2 m3 m4 m5 m6
    obtain ⟨a1, a2, a3⟩ := (unhide HI1).app hD1 (k := 0) (j := 0) (by decide) (by decide) 0 (r := ⟨q, d, o, v⟩) hm rfl (fun i hi => absurd hi (Nat.not_lt_zero i))
    have KA := ok_appZ (unhide HK1) 0 0 ⟨q, d, o, v⟩ (isRec_ok (unhide HR))
    have a1' : A1.appE 0 0 ⟨q, d, o, v⟩ = 0 := a1
    rw [a1'] at CA
    obtain ⟨A2, hA2⟩ : ∃ A, A = A1.appZ 0 0 ⟨q, d, o, v⟩ := ⟨_, rfl⟩
    have hA2' : A1.appZ ((0 : Nat) : Int) 0 ⟨q, d, o, v⟩ = A2 := hA2.symm
    rw [hA2'] at a2 a3
    rw [← hA2] at CA KA
    have HI2 := hide a3
    have hc2 : Calm A2 := a2.calm
    have HK2 := hide KA
    have HV : Hid (InU v) := isRec_ok (unhide HR)
    clear hA2 hA2' a1 a1' a2 a3 KA hD1 HR HI1 HS1 HK1
    have CA2 : Hid (Calls Try.prog 7 #[.pointer (some ⟨m, 0, none⟩), .int .i64 0, .int .i64 0, .agg #[.int .i64 q, .int .i64 d, .int .i64 o, .int .u64 v]] w5 _) := unhide CA
    clear CA
    go_wp2_with (with_reducible refine wpList_load_row (by with_unfolding_all rfl) 24 _ (by with_unfolding_all rfl) g1 (by with_unfolding_all rfl) _ _ _ _ (unhide B5) Try.underlying24 (by with_unfolding_all rfl) s4 ?_)
    refine (unhide CA2).mono ?_
    rintro e w6 ⟨rfl, h1, h2⟩
    have O3 := hide ((unhide O2).call (St' := fun w G => Has W w G m A2) h1 h2)
    clear h1 h2 CA2 O2 B5 s4
    have hrs2 : A2.rs = [⟨q, d, o, v⟩] := (unhide HI2).scanned hc2.1
    obtain ⟨b1, b2, b3, b4, b5, b6⟩ := (unhide HI2).boot hc2 (by rw [hrs2]; show 1 + fromN 1 + 57 ≤ 64; decide)
    have hN2 : bootN A2 = q + 1 := by
      unfold bootN
      rw [hrs2, b6]
      show max 0 q + 1 = q + 1
      omega
    have CB := hide (fun (w' : World) (G' : Nat → Prop) (h' : Has W w' G' m A2) => imboot_any (unhide M) h' _ (unhide HK2) (by have := A2.rs_le; omega))
    have EB : Hid (bootE A2 = 0 ∧ bootN A2 = q + 1) := ⟨b1, hN2⟩
    rw [hrs2] at b3
    have HC2 := hide b3
    clear b1 b2 b3 b4 b5 b6 hN2 hrs2 hc2 HI2 HK2
    go_wp2_with fail
    refine (unhide CB _ _ (unhide O3).st).mono ?_
    intro e w9 hq
    unfold BoPost at hq
    rw [if_pos (unhide EB).1, (unhide EB).2] at hq
    obtain ⟨p2, rfl, h1, h2⟩ := hq
    obtain ⟨A3, hA3⟩ : ∃ A, A = bootM A2 := ⟨_, rfl⟩
    obtain ⟨S3, hS3⟩ : ∃ S, S = bootS A2 := ⟨_, rfl⟩
    rw [← hA3, ← hS3] at h1 HC2
    have O6 := hide ((unhide O3).call (St' := SHas W m p2 (fun A w G => Has W w G m A) S3 A3) h1 h2)
    have TT := hide (SHas.stay (unhide M).toMemL p2 S3 A3)
    generalize A2.findV.getD 0 0 = z0 at *
    generalize A2.rt = z1 at *
    generalize A2.sq = z2 at *
    generalize A2.cs = z3 at *
    generalize A2.findAt = z4 at *
    obtain ⟨IV2, hIV2⟩ : ∃ V, V = imgV (some ⟨p2, 0, none⟩) z0 z1 z2 z3 z4 (q + 1) := ⟨_, rfl⟩
    have O7 := hide ((unhide O6).alloc (unhide TT) (.cells IV2 41))
    have SI1 : Hid ((Try.prog.info? 41).map (·.size) = some IV2.size) := by rw [hIV2]; exact s7_img _ _ _ _ _ _ _
    have SZ1 : Hid (imgZ.size = IV2.size) := by rw [hIV2]; exact (rfl : imgZ.size = _)
    have XI1 : Hid (IV2.all (·.oneCell') = true) := by rw [hIV2]; exact imgV_one _ _ _ _ _ _ _
    have VC2 : Hid (IV2[0]? = some (.pointer (some ⟨p2, 0, none⟩)) ∧ IV2[6]? = some (.int .i64 (q + 1))) := by rw [hIV2]; exact ⟨rfl, rfl⟩
    rw [← hIV2]
    have ZI := hide zero_img
    clear h1 h2 CB EB O3 O6 hIV2 hA3 hS3
    go_upto_region 11 with (first | (with_reducible refine wpList_allocZ (by with_unfolding_all rfl) 41 (by with_unfolding_all rfl) imgZ (unhide ZI) ?_) | (with_reducible refine wpList_store_row (by with_unfolding_all rfl) 41 _ _ (by with_unfolding_all rfl) w9.heap.size IV2 (by with_unfolding_all rfl) (by with_unfolding_all rfl) 41 imgZ (heap_new w9 _) (unhide SI1) (unhide SZ1) (unhide XI1) ?_; rw [setRow_alloc]))
    obtain ⟨g7, hg7⟩ : ∃ g, g = w9.heap.size := ⟨_, rfl⟩
    rw [← hg7] at O7 ⊢
    clear hg7 SI1 SZ1 XI1 ZI
    generalize w9.alloc (.cells IV2 41) = w10 at *
    have i0 : w10.cell? ⟨g7, 0, none⟩ = some (.pointer (some ⟨p2, 0, none⟩)) := by rw [cell_of_block ((unhide O7).at g7 (.cells IV2 41) (by simp))]; exact (unhide VC2).1
    have i6 : w10.cell? ⟨g7, 6, none⟩ = some (.int .i64 (q + 1)) := by rw [cell_of_block ((unhide O7).at g7 (.cells IV2 41) (by simp))]; exact (unhide VC2).2
    have r0 : w10.cell? ⟨g1, 0, none⟩ = some (.int .i64 q) := by rw [cell_of_block (((unhide O7).2.2 g1 rfl).trans (unhide B2))]; rfl
    have hself : (q + 1 != q + 1) = false := by simp
    go_upto_region 13 with fail
    clear i0 i6 r0 hself
    have hn3 : A3.n ≤ 1024 := by rw [(unhide HC2).an]; decide
    have HGT : Hid (∀ i : Nat, i < 3 → getT S3 A3 (i : Int) = .tuple #[.agg (obV ((i : Int) + 1) 0 (wN d o v i)), .int .i64 0]) := fun i hi => by
      have g := ((unhide HC2).get i (by omega)).1 (by rw [(tb3 i hi).1]; omega)
      unfold getT
      rw [g.1, g.2, (tb3 i hi).1, (tb3 i hi).2.1]
      have e : redC (tabO (fromN 1) lo3) 0 [⟨q, d, o, v⟩] (fun i => (lo3.getD i ob0).l) 1 i = wN d o v i := rc_words q d o v m1 m3 i hi
      have e2 : ([⟨q, d, o, v⟩] : List Rc).length = 1 := rfl
      rw [e2, e]
    have CG := hide (fun (i : Nat) (w' : World) (G' : Nat → Prop) (h' : SHas W m p2 (fun A w G => Has W w G m A) S3 A3 w' G') => get_any (unhide M).toMemL h' hn3 (i : Int))
    clear hn3 HC2
    go_wp2_with fail
    go_loopw [9] (fun c wr => ∃ i : Nat, i ≤ 3 ∧ c = .int .i64 i ∧ Held W (SHas W m p2 (fun A w G => Has W w G m A) S3 A3) w2 wr (fun k => k = g1) [(g7, .cells IV2 41)]) (fun c _ => 3 - (intOf c).toNat)
    case atStart => exact ⟨0, by omega, rfl, (unhide O7).less (unhide TT) (by simp)⟩
    case round =>
      clear O7
      obtain ⟨i, hi, rfl, hh⟩ := hrel
      have HH := hide hh
      clear hh
      by_cases hlt : i < 3
      · have hlt' : (i : Int) < 3 := by omega
        have CGI := hide (unhide CG i _ _ (unhide HH).st)
        rw [unhide HGT i hlt] at CGI
        have ZO := hide zero_ob
        have S1 := hide (s10_ob ((i : Int) + 1) 0 (wN d o v i))
        have X1 := hide (obV_one ((i : Int) + 1) 0 (wN d o v i))
        have Q1 : Hid ((obV 0 0 fun _ => 0).size = (obV ((i : Int) + 1) 0 (wN d o v i)).size) := by show _ = _; rw [obV_size, obV_size]
        have R1 := hide (fun (w' : World) (g : Nat) (h : w'.heap[g]? = some (.cells (obV ((i : Int) + 1) 0 (wN d o v i)) 33 (0, 0))) => obC_range (x := ⟨(i : Int) + 1, 0, wN d o v i⟩) h)
        generalize (obV 0 0 fun _ => 0) = ZOV at *
        generalize obV ((i : Int) + 1) 0 (wN d o v i) = OV1 at *
        have i0 : wr.cell? ⟨g7, 0, none⟩ = some (.pointer (some ⟨p2, 0, none⟩)) := by rw [cell_of_block ((unhide HH).at g7 (.cells IV2 41) (by simp))]; exact (unhide VC2).1
        go_wp2_with fail
        refine (unhide CGI).mono ?_
        rintro e w11 ⟨rfl, h1, h2⟩
        have O8 := hide (((unhide HH).call (St' := SHas W m p2 (fun A w G => Has W w G m A) S3 A3) h1 h2).alloc (unhide TT) (.cells OV1 33))
        clear h1 h2 CGI HH i0
        go_upto_region 17 with (first | (with_reducible refine wpList_allocZ (by with_unfolding_all rfl) 33 (by with_unfolding_all rfl) ZOV (unhide ZO) ?_) | (with_reducible refine wpList_store_row (by with_unfolding_all rfl) 33 _ _ (by with_unfolding_all rfl) w11.heap.size OV1 (by with_unfolding_all rfl) (by with_unfolding_all rfl) 33 ZOV (heap_new w11 _) (unhide S1) (unhide Q1) (unhide X1) ?_; rw [setRow_alloc]))
        obtain ⟨g10, hg10⟩ : ∃ g, g = w11.heap.size := ⟨_, rfl⟩
        rw [← hg10] at O8 ⊢
        clear hg10 S1 Q1 X1 ZO
        generalize w11.alloc (.cells OV1 33) = w12 at *
        have ZL := hide zero_lnI
        have BL := hide build_ln0
        have SL := hide (s8_ln fun _ => 0)
        have XL := hide (lnV_one fun _ => 0)
        have O9 := hide ((unhide O8).alloc (unhide TT) (.cells (lnV fun _ => 0) 31))
        have HNE : Hid (∀ p ∈ [(g10, Obj.cells OV1 33 (0, 0)), (g7, Obj.cells IV2 41 (0, 0))], p.1 ≠ w12.heap.size) := (unhide O8).fresh
        have LC := hide (fun (j : Nat) (hj : j < 8) => lnV_get (fun _ => 0) j hj)
        have LS := hide (fun (j : Nat) (z : Int) => lnV_set (fun _ => 0) j z)
        obtain ⟨ZLV, hZLV⟩ : ∃ Z, Z = lnV fun _ => 0 := ⟨_, rfl⟩
        rw [← hZLV] at ZL BL SL XL O9 LC LS
        have HZLV := hide hZLV
        clear hZLV
        go_upto_region 18 with (first | (with_reducible refine wpList_build0 (by with_unfolding_all rfl) 31 (by with_unfolding_all rfl) ZLV (unhide BL) ?_) | (with_reducible refine wpList_allocZ (by with_unfolding_all rfl) 31 (by with_unfolding_all rfl) ZLV (unhide ZL) ?_) | (with_reducible refine wpList_store_row (by with_unfolding_all rfl) 31 _ _ (by with_unfolding_all rfl) w12.heap.size ZLV (by with_unfolding_all rfl) (by with_unfolding_all rfl) 31 ZLV (heap_new w12 _) (unhide SL) rfl (unhide XL) ?_; rw [setRow_alloc]))
        obtain ⟨g12, hg12⟩ : ∃ g, g = w12.heap.size := ⟨_, rfl⟩
        rw [← hg12] at O9 HNE ⊢
        clear hg12 O8 ZL BL SL XL
        generalize w12.alloc (.cells ZLV 31) = w13 at *
        have r1 : w13.cell? ⟨g1, 1, none⟩ = some (.int .i64 d) := by rw [cell_of_block (((unhide O9).2.2 g1 rfl).trans (unhide B2))]; rfl
        by_cases hc : i = 0 ∧ d = 0
        · obtain ⟨rfl, rfl⟩ := hc
          have r2 : w13.cell? ⟨g1, 2, none⟩ = some (.int .i64 o) := by rw [cell_of_block (((unhide O9).2.2 g1 rfl).trans (unhide B2))]; rfl
          have r3 : w13.cell? ⟨g1, 3, none⟩ = some (.int .u64 v) := by rw [cell_of_block (((unhide O9).2.2 g1 rfl).trans (unhide B2))]; rfl
          obtain ⟨on, rfl⟩ : ∃ on : Nat, o = (on : Int) := ⟨o.toNat, by omega⟩
          have on8 : on < 8 := by omega
          have HON := hide on8
          have cz : w13.cell? ⟨g12, on, none⟩ = some (.int .u64 0) := by rw [cell_of_block ((unhide O9).at g12 (.cells ZLV 31) (by simp))]; exact unhide LC on on8
          have fz : w13.frozen? ⟨g12, on, none⟩ = false := unfrozen_of_block ((unhide O9).at g12 (.cells ZLV 31) (by simp)) _
          have OX := hide ((unhide O9).cellHd (unhide TT) (unhide HNE) on (.int .u64 v))
          rw [unhide LS on v] at OX
          have HWN : Hid (wN 0 (on : Int) v 0 = upd (fun _ => 0) on v) := by
            show _ = _
            unfold wN
            rw [if_pos ⟨rfl, rfl⟩, Int.toNat_natCast]; rfl
          rw [← unhide HWN] at OX
          clear LC LS HZLV O9 HWN
          go_upto_region 20 with fail
          clear r1 r2 r3 cz fz on8
          generalize w13.setCell ⟨g12, on, none⟩ (.int .u64 v) = w14 at *
          obtain ⟨fw, hfw⟩ : ∃ f, f = wN 0 (on : Int) v 0 := ⟨_, rfl⟩
          rw [← hfw] at OX R1
          clear hfw
          have RR := hide (unhide R1 w14 g10 ((unhide OX).at g10 (.cells OV1 33) (by simp)))
          have KL := hide ((unhide OX).at g12 (.cells (lnV fw) 31) (by simp))
          have L1 : (lnV fw).toList.toArray = lnV fw := Array.toArray_toList
          have s81 : (Try.prog.info? 31).map (·.size) = some (lnV fw).toList.length := by rw [Array.length_toList]; exact s8_ln fw
          have s82 := hide (s8_ln fw)
          have EQ1 : Hid (eqL fw fw = true) := (eqL_iff _ _).2 fun _ _ => rfl
          go_wp2_with (first | (with_reducible refine wpList_load_mid_w (by with_unfolding_all rfl) 31 (.tmp 111) (by with_unfolding_all rfl) g10 2 (by with_unfolding_all rfl) (lnV fw).toList _ (unhide RR) Try.underlying31 (by with_unfolding_all rfl) s81 ?_; rw [L1]) | (with_reducible refine wpList_load_row_g (by with_unfolding_all rfl) 31 (.tmp 12) (by with_unfolding_all rfl) g12 (by with_unfolding_all rfl) _ _ _ _ (unhide KL) Try.underlying31 (by with_unfolding_all rfl) (unhide s82) ?_) | (with_reducible refine wpList_neq (by with_unfolding_all rfl) _ _ (by with_unfolding_all rfl) fw fw (by with_unfolding_all rfl) (by with_unfolding_all rfl) ?_; rw [unhide EQ1]))
          go_roundw
          case rel => first | exact ⟨i + 1, by omega, by go_num, (unhide OX).less (unhide TT) (by simp)⟩ | exact ⟨0 + 1, by omega, by go_num, (unhide OX).less (unhide TT) (by simp)⟩
          case measure => simp [intOf]; try omega
        · have HWN : Hid (wN d o v i = fun _ => 0) := if_neg hc
          have OX := O9
          rw [unhide HZLV, ← unhide HWN] at OX
          clear O9 LC LS HZLV HWN
          obtain ⟨w14, hw14⟩ : ∃ x, x = w13 := ⟨_, rfl⟩
          by_cases hi0 : i = 0
          · have hd0 : (d == 0) = false := by
              have : d ≠ 0 := fun c => hc ⟨hi0, c⟩
              simpa using this
            have hib : ((i : Int) == 0) = true := by rw [hi0]; rfl
            clear hc hi0
            go_upto_region 20 with fail
            clear r1
            rw [← hw14] at OX ⊢
            clear hw14
            obtain ⟨fw, hfw⟩ : ∃ f, f = wN d o v i := ⟨_, rfl⟩
            rw [← hfw] at OX R1
            clear hfw
            have RR := hide (unhide R1 w14 g10 ((unhide OX).at g10 (.cells OV1 33) (by simp)))
            have KL := hide ((unhide OX).at g12 (.cells (lnV fw) 31) (by simp))
            have L1 : (lnV fw).toList.toArray = lnV fw := Array.toArray_toList
            have s81 : (Try.prog.info? 31).map (·.size) = some (lnV fw).toList.length := by rw [Array.length_toList]; exact s8_ln fw
            have s82 := hide (s8_ln fw)
            have EQ1 : Hid (eqL fw fw = true) := (eqL_iff _ _).2 fun _ _ => rfl
            go_wp2_with (first | (with_reducible refine wpList_load_mid_w (by with_unfolding_all rfl) 31 (.tmp 111) (by with_unfolding_all rfl) g10 2 (by with_unfolding_all rfl) (lnV fw).toList _ (unhide RR) Try.underlying31 (by with_unfolding_all rfl) s81 ?_; rw [L1]) | (with_reducible refine wpList_load_row_g (by with_unfolding_all rfl) 31 (.tmp 12) (by with_unfolding_all rfl) g12 (by with_unfolding_all rfl) _ _ _ _ (unhide KL) Try.underlying31 (by with_unfolding_all rfl) (unhide s82) ?_) | (with_reducible refine wpList_neq (by with_unfolding_all rfl) _ _ (by with_unfolding_all rfl) fw fw (by with_unfolding_all rfl) (by with_unfolding_all rfl) ?_; rw [unhide EQ1]))
            go_roundw
            case rel => first | exact ⟨i + 1, by omega, by go_num, (unhide OX).less (unhide TT) (by simp)⟩ | exact ⟨0 + 1, by omega, by go_num, (unhide OX).less (unhide TT) (by simp)⟩
            case measure => simp [intOf]; try omega
          · have hib : ((i : Int) == 0) = false := by
              have : (i : Int) ≠ 0 := by omega
              simpa using this
            clear hc hi0
            go_upto_region 20 with fail
            clear r1
            rw [← hw14] at OX ⊢
            clear hw14
            obtain ⟨fw, hfw⟩ : ∃ f, f = wN d o v i := ⟨_, rfl⟩
            rw [← hfw] at OX R1
            clear hfw
            have RR := hide (unhide R1 w14 g10 ((unhide OX).at g10 (.cells OV1 33) (by simp)))
            have KL := hide ((unhide OX).at g12 (.cells (lnV fw) 31) (by simp))
            have L1 : (lnV fw).toList.toArray = lnV fw := Array.toArray_toList
            have s81 : (Try.prog.info? 31).map (·.size) = some (lnV fw).toList.length := by rw [Array.length_toList]; exact s8_ln fw
            have s82 := hide (s8_ln fw)
            have EQ1 : Hid (eqL fw fw = true) := (eqL_iff _ _).2 fun _ _ => rfl
            go_wp2_with (first | (with_reducible refine wpList_load_mid_w (by with_unfolding_all rfl) 31 (.tmp 111) (by with_unfolding_all rfl) g10 2 (by with_unfolding_all rfl) (lnV fw).toList _ (unhide RR) Try.underlying31 (by with_unfolding_all rfl) s81 ?_; rw [L1]) | (with_reducible refine wpList_load_row_g (by with_unfolding_all rfl) 31 (.tmp 12) (by with_unfolding_all rfl) g12 (by with_unfolding_all rfl) _ _ _ _ (unhide KL) Try.underlying31 (by with_unfolding_all rfl) (unhide s82) ?_) | (with_reducible refine wpList_neq (by with_unfolding_all rfl) _ _ (by with_unfolding_all rfl) fw fw (by with_unfolding_all rfl) (by with_unfolding_all rfl) ?_; rw [unhide EQ1]))
            go_roundw
            case rel => first | exact ⟨i + 1, by omega, by go_num, (unhide OX).less (unhide TT) (by simp)⟩ | exact ⟨0 + 1, by omega, by go_num, (unhide OX).less (unhide TT) (by simp)⟩
            case measure => simp [intOf]; try omega
      · have KF := hide ((unhide TT).sz _ _ (unhide HH).1)
        go_wp2_with fail
        go_ret
        exact ⟨rfl, (unhide KF).asBelow⟩
  · have hfree : A1.freeE 0 0 = 0 := by
      have hb := (unhide HI1).free (k := 0) (j := 0) (by decide) (by decide) 0
      have hN : A1.freeN 0 0 4 = some 0 := by
        unfold Mm.freeN
        rw [List.find?_range_eq_some]
        exact ⟨by rw [hb]; rfl, by simp, fun i hi => absurd hi (Nat.not_lt_zero i)⟩
      unfold Mm.freeE
      rw [if_pos ⟨by decide, by decide⟩, if_pos hD1.calm.1]
      show (if (A1.freeN 0 0 4).isSome = true then (0 : Int) else 11) = 0
      rw [hN]; rfl
    have e1 : A1.appE 0 0 ⟨q, d, o, v⟩ = 1 := by simp only [Mm.appE, hfree, hm, if_true]; rfl
    rw [e1] at CA
    have hmm : ¬ (1 ≤ q ∧ q ≤ 1099511627776 ∧ 0 ≤ d ∧ d < 49 ∧ 0 ≤ o ∧ o < 8) := fun c => hm ((mayR_iff _).2 c)
    clear e1 hfree hm hD1 HI1 HS1 HK1 HR
    generalize A1.appZ 0 0 ⟨q, d, o, v⟩ = A2 at *
    have CA2 : Hid (Calls Try.prog 7 #[.pointer (some ⟨m, 0, none⟩), .int .i64 0, .int .i64 0, .agg #[.int .i64 q, .int .i64 d, .int .i64 o, .int .u64 v]] w5 _) := unhide CA
    clear CA
    go_wp2_with (with_reducible refine wpList_load_row (by with_unfolding_all rfl) 24 _ (by with_unfolding_all rfl) g1 (by with_unfolding_all rfl) _ _ _ _ (unhide B5) Try.underlying24 (by with_unfolding_all rfl) s4 ?_)
    refine (unhide CA2).mono ?_
    rintro e w6 ⟨rfl, h1, h2⟩
    have O3 := hide ((unhide O2).call (St' := fun w G => Has W w G m A2) h1 h2)
    clear h1 h2 CA2 O2
    have B6 := ((unhide O3).2.2 g1 rfl).trans (unhide B2)
    have r0 : w6.cell? ⟨g1, 0, none⟩ = some (.int .i64 q) := by rw [cell_of_block B6]; rfl
    have r1 : w6.cell? ⟨g1, 1, none⟩ = some (.int .i64 d) := by rw [cell_of_block B6]; rfl
    have r2 : w6.cell? ⟨g1, 2, none⟩ = some (.int .i64 o) := by rw [cell_of_block B6]; rfl
    clear B6 B5 B2
    by_cases c1 : q < 1
    · clear hmm
      go_wp2_with fail
      go_ret
      exact ⟨rfl, (((unhide M).stay A2).sz _ _ (unhide O3).1).asBelow⟩
    by_cases c2 : 1099511627776 < q
    · clear hmm
      go_wp2_with fail
      go_ret
      exact ⟨rfl, (((unhide M).stay A2).sz _ _ (unhide O3).1).asBelow⟩
    by_cases c3 : d < 0
    · clear hmm
      go_wp2_with fail
      go_ret
      exact ⟨rfl, (((unhide M).stay A2).sz _ _ (unhide O3).1).asBelow⟩
    by_cases c4 : 49 ≤ d
    · clear hmm
      go_wp2_with fail
      go_ret
      exact ⟨rfl, (((unhide M).stay A2).sz _ _ (unhide O3).1).asBelow⟩
    by_cases c5 : o < 0
    · clear hmm
      go_wp2_with fail
      go_ret
      exact ⟨rfl, (((unhide M).stay A2).sz _ _ (unhide O3).1).asBelow⟩
    have c6 : 7 < o := by omega
    clear hmm
    go_wp2_with fail
    go_ret
    exact ⟨rfl, (((unhide M).stay A2).sz _ _ (unhide O3).1).asBelow⟩

set_option maxRecDepth 100000 in
theorem lifted (os : Os) (started : os.Started) (H : Type) (enc : TypeId × Value → H) :
    ReturnsInHanded {} Try.checked os 3 .any (Rows.reviveRecordsSpec.pre6 enc Try.prog Try.f3 Rows.reviveRecordsRow.domain false) (Rows.reviveRecordsSpec.post enc Try.prog Try.f3 false true false false) := by
  refine law_frame (C := Try.checked) (ts := [24]) (tb := 4) (by kernel_rfl) started (by kernel_rfl) Try.func3 Try.params3 (by kernel_rfl) Try.underlying4 (by kernel_rfl) (by kernel_rfl) rfl ?_
    (ChangeSpec.witness6 (enc := enc) (C := Try.checked) false ⟨#[], #[.agg #[.int .i64 0, .int .i64 0, .int .i64 0, .int .u64 0]], []⟩ 8 (by kernel_rfl) (by kernel_rfl) (by kernel_rfl) (by kernel_rfl)) ?_
  · intro ds hd
    match ds, hd with
    | [d0], _ => rfl
  · intro W base args ds p hval hA
    obtain ⟨v0, vs0, d0, ds0, p0, q0, hargs, rfl, rfl, h0, r0⟩ := trodAll_cons hA
    obtain ⟨rfl, rfl, rfl⟩ := trodAll_nil r0
    obtain rfl : args = #[v0] := by cases args; simp_all
    obtain ⟨r, rfl, hr⟩ := open_rec (hval 0 24 v0 rfl rfl) h0
    exact walk r hr W

theorem over : Rows.reviveRecordsRow.holds Try.pinned (OpenSpec.ofChange Rows.reviveRecordsSpec) :=
  OpenClaim.holds_of_wide 3 Try.f3 rfl rfl rfl rfl rfl rfl rfl ⟨rfl, rfl, rfl, rfl, rfl⟩ rfl rfl rfl rfl rfl (by kernel_rfl) Try.func3 (by kernel_rfl)
    (of_decide_eq_true (by kernel_rfl)) (by unfold Func.isWrapper; first | (rw [if_pos (by decide +kernel)]; kernel_rfl) | (rw [if_neg (by decide +kernel)]; exact ⟨rfl, rfl⟩))
    (fun os started H enc _ => lifted os started H enc)

end Go.Proofs.Ytiafhcgaikapcaa.reviveRecords
namespace Go.Proofs.Ytiafhcgaikapcaa
theorem reviveRecords_holds : Rows.ReviveRecordsSaid := reviveRecords.over
end Go.Proofs.Ytiafhcgaikapcaa
