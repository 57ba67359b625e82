
/-
  For every number and every row of values, ObjectsOnce returns true: an object whose line is not its own gets one by the first Set, and keeps it, till what there is is marked. No condition.
-/
import Derived.Test.YtjmgmbigbkllgaaOHead
import Derived.Test.YtjmgmbigbkllgaaOArgs
import Derived.Test.YtjmgmbigbkllgaaLaw
import Derived.Test.YtjmgmbigbkllgaaRows
namespace Go.Proofs.Ytjmgmbigbkllgaa.objectsOnce
open Go.ChangeShapes Go.WideShapes Go.ChangeAt Go.RowKit Go.Joins
set_option linter.unusedVariables false
set_option linter.unusedSimpArgs false
set_option maxRecDepth 100000

/-- The store behind i Sets of the object k; the memory; what its line has. -/
def onS (k i : Nat) : Sto := if i = 0 then sS 12 100 else (sS 12 100).took.withW k (moved ((sS 12 100).w k) 18)
def onA (k : Nat) (vs : Nat → Int) : Nat → Mm
  | 0 => sA 100
  | i + 1 => (onS k i).setM (onA k vs i) (k : Int) ((i : Int) % 8) (vs i)
def onL (vs : Nat → Int) : Nat → Nat → Int
  | 0 => fun _ => 0
  | i + 1 => upd (onL vs i) (i % 8) (vs i)
theorem on0 : ∀ k : Nat, k < 12 → (sS 12 100).findE (k : Int) = 0 ∧ (sS 12 100).own ((sS 12 100).line (k : Int)) = false ∧ (sS 12 100).line (k : Int) = 20 + (k : Int) ∧ (sS 12 100).F.allocE = 0 ∧ (sS 12 100).F.allocV = 18 ∧ (sS 12 100).F.left = 70 := by decide +kernel
theorem on1 : ∀ k : Nat, k < 12 → (onS k 1).findE (k : Int) = 0 ∧ (onS k 1).own ((onS k 1).line (k : Int)) = true ∧ (onS k 1).line (k : Int) = 18 ∧ (onS k 1).F.left = 69 := by decide +kernel
theorem onM0 : ∀ k : Nat, k < 12 → (onS k 0).markS.findE (k : Int) = 0 ∧ (onS k 0).markS.own ((onS k 0).markS.line (k : Int)) = false ∧ (onS k 0).markS.line (k : Int) = 20 + (k : Int) ∧ (onS k 0).markS.F.allocE = 0 ∧ (onS k 0).markS.F.allocV = 18 ∧ (onS k 0).markE = 0 := by decide +kernel
theorem onM1 : ∀ k : Nat, k < 12 → (onS k 1).markS.findE (k : Int) = 0 ∧ (onS k 1).markS.own ((onS k 1).markS.line (k : Int)) = false ∧ (onS k 1).markS.line (k : Int) = 18 ∧ (onS k 1).markS.F.allocE = 0 ∧ (onS k 1).markS.F.allocV = 19 ∧ (onS k 1).markE = 0 := by decide +kernel
theorem onS_one (k i : Nat) : onS k (i + 1) = onS k 1 := by unfold onS; rw [if_neg (by omega), if_neg (by omega)]
theorem onS_ok (k i : Nat) (hk : k < 12) : (onS k i).ok := by
  unfold onS
  split
  · exact sS_ok 12 100 (by decide) (by decide)
  · exact withW_ok (took_ok (sS_ok 12 100 (by decide) (by decide))) _ _ ((sS_ok 12 100 (by decide) (by decide)).2 k (by omega))
theorem onA_ok (k : Nat) (vs : Nat → Int) (n : Nat) (hv : ∀ i, i < n → InU (vs i)) : ∀ i, i ≤ n → (onA k vs i).ok (8 * i)
  | 0, _ => sA_ok 100 (by decide) (by decide)
  | i + 1, h => ok_mono (setM_ok (onA_ok k vs n hv i (by omega)) _ _ _ (hv i (by omega))) (by omega)
theorem onA_n (k : Nat) (vs : Nat → Int) : ∀ i, (onA k vs i).n = 100
  | 0 => rfl
  | i + 1 => (setM_n _ _ _ _ _).trans (onA_n k vs i)
theorem zero_has (z : Int) (hz : 0 ≤ z ∧ z < 100) : ∀ j, (sA 100).hasZ z j = 0 := fun j => by
  unfold Mm.hasZ
  rw [if_pos ⟨⟨hz.1, hz.2⟩, rfl⟩]; rfl
theorem on_step (k : Nat) (hk : k < 12) (vs : Nat → Int) : ∀ i, (onS k i).setE (onA k vs i) (k : Int) ((i : Int) % 8) (vs i) = 0 ∧ (onS k i).setS (onA k vs i) (k : Int) ((i : Int) % 8) (vs i) = onS k (i + 1) ∧ Calm (onA k vs (i + 1)) ∧ ∀ j, j < 8 → (onA k vs (i + 1)).hasZ 18 j = onL vs (i + 1) j
  | 0 => by
    obtain ⟨h1, h2, h3, h4, h5, h6⟩ := on0 k hk
    have hz : (sA 100).isZ ((sS 12 100).line (k : Int)) := by rw [h3]; exact ⟨by omega, by show _ < ((100 : Nat) : Int); omega⟩
    have hy : (sA 100).isZ (sS 12 100).F.allocV := by rw [h5]; exact ⟨by decide, by decide⟩
    obtain ⟨e1, e2, e3⟩ := set_first (S := sS 12 100) (A := sA 100) (z := (k : Int)) (q := 0) (calm_new _ _) ⟨by decide, by decide⟩ h1 h2 hz h4 hy (vs 0)
    obtain ⟨q1, q2, q3, q4⟩ := lay_calm (S := sS 12 100) (A := sA 100) (calm_new _ _) h4 hy ((sS 12 100).copy (sA 100) (k : Int) 0 (vs 0))
    have eM : onA k vs 1 = (sS 12 100).layM (sA 100) ((sS 12 100).copy (sA 100) (k : Int) 0 (vs 0)) := e3
    refine ⟨e1, ?_, ?_, ?_⟩
    · refine e2.trans ?_
      rw [h5, Int.toNat_natCast]; rfl
    · rw [eM]; exact q2
    · intro j hj
      have := q4 j hj
      rw [h5] at this
      rw [eM, this]
      show upd ((sA 100).hasZ ((sS 12 100).line (k : Int))) (0 : Int).toNat (vs 0) j = upd (fun _ => 0) (0 % 8) (vs 0) j
      rw [h3]
      unfold upd
      rw [zero_has (20 + (k : Int)) ⟨by omega, by omega⟩ j]; rfl
  | i + 1 => by
    obtain ⟨_, _, hc, hh⟩ := on_step k hk vs i
    obtain ⟨h1, h2, h3, h4⟩ := on1 k hk
    have e0 := onS_one k i
    have e1' := onS_one k (i + 1)
    rw [e0, e1']
    have hz : (onA k vs (i + 1)).isZ ((onS k 1).line (k : Int)) := by rw [h3]; exact ⟨by decide, by rw [onA_n]; decide⟩
    have hq : is8 (((i + 1 : Nat) : Int) % 8) := ⟨by omega, by omega⟩
    obtain ⟨e1, e2, e3⟩ := set_again (S := onS k 1) (A := onA k vs (i + 1)) hc hq h1 h2 hz (vs (i + 1))
    have eM : onA k vs (i + 1 + 1) = (onA k vs (i + 1)).storeZ 18 (((i + 1 : Nat) : Int) % 8) (vs (i + 1)) := by
      show (onS k (i + 1)).setM _ _ _ _ = _
      rw [e0, e3, h3]
    rw [h3] at hz
    refine ⟨e1, e2, ?_, fun j hj => ?_⟩
    · rw [eM]; exact calm_store hc _ _ _
    · rw [eM, has_store hc hz hq _ _ hz, if_pos rfl]
      show upd _ _ _ j = upd (onL vs (i + 1)) ((i + 1) % 8) (vs (i + 1)) j
      rw [show ((((i + 1 : Nat) : Int) % 8)).toNat = (i + 1) % 8 by omega]
      unfold upd
      rw [hh j hj]
/-- What stands behind the Sets. -/
theorem on_end (k : Nat) (hk : k < 12) (vs : Nat → Int) (i : Nat) : Calm (onA k vs i) ∧ (onS k i).getE (onA k vs i) (k : Int) = 0 ∧ (onS k i).getV (onA k vs i) (k : Int) = obV ((onS k i).w k).k ((onS k i).w k).v (onL vs i) ∧ (onS k i).markE = 0 ∧
    (onS k i).markS.setE (onA k vs i) (k : Int) 0 5 = 0 ∧ ((onS k i).w k).l ≠ (((onS k i).markS.setS (onA k vs i) (k : Int) 0 5).w k).l := by
  have ext : ∀ f g : Nat → Int, (∀ j, j < 8 → f j = g j) → ∀ x y, obV x y f = obV x y g := fun f g h x y => by
    unfold obV; rw [show lnV f = lnV g from tab_ext fun j hj => by rw [h j hj]]
  have wk : ∀ (T : Sto) (x : En), (T.withW k x).w k = x := fun T x => upd_same _ _ _
  match i with
  | 0 =>
    obtain ⟨h1, h2, h3, h4, h5, h6⟩ := on0 k hk
    obtain ⟨m1, m2, m3, m4, m5, m6⟩ := onM0 k hk
    have hc : Calm (onA k vs 0) := calm_new _ _
    have hz : (onA k vs 0).isZ (20 + (k : Int)) := ⟨by omega, by show _ < ((100 : Nat) : Int); omega⟩
    have hy : (onA k vs 0).isZ (onS k 0).markS.F.allocV := by rw [m5]; exact ⟨by decide, by show (18 : Int) < ((100 : Nat) : Int); decide⟩
    have hg : (onS k 0).getE (onA k vs 0) (k : Int) = 0 := by
      unfold Sto.getE
      show (if (sS 12 100).findE (k : Int) = 0 then (sA 100).loadE ((sS 12 100).line (k : Int)) else _) = 0
      rw [if_pos h1, h3]; exact calm_loadE hc hz
    obtain ⟨e1, e2, e3⟩ := set_first (S := (onS k 0).markS) (A := onA k vs 0) (z := (k : Int)) (q := 0) hc ⟨by decide, by decide⟩ m1 m2 (by rw [m3]; exact hz) m4 hy 5
    refine ⟨hc, hg, ?_, m6, e1, ?_⟩
    · unfold Sto.getV
      rw [if_pos hg, Int.toNat_natCast]
      show obV _ _ ((sA 100).hasZ ((sS 12 100).line (k : Int))) = _
      rw [h3]
      exact ext _ _ (fun j hj => zero_has _ ⟨by omega, by omega⟩ j) _ _
    · rw [e2, m5, Int.toNat_natCast]
      rw [wk]
      show ((sS 12 100).w k).l ≠ 18
      have := h3
      unfold Sto.line at this
      rw [Int.toNat_natCast] at this
      rw [this]; omega
  | i + 1 =>
    obtain ⟨_, _, hc, hh⟩ := on_step k hk vs i
    obtain ⟨h1, h2, h3, h4⟩ := on1 k hk
    obtain ⟨m1, m2, m3, m4, m5, m6⟩ := onM1 k hk
    rw [onS_one k i]
    have hz : (onA k vs (i + 1)).isZ 18 := ⟨by decide, by rw [onA_n]; decide⟩
    have hy : (onA k vs (i + 1)).isZ (onS k 1).markS.F.allocV := by rw [m5]; exact ⟨by decide, by rw [onA_n]; decide⟩
    have hg : (onS k 1).getE (onA k vs (i + 1)) (k : Int) = 0 := by unfold Sto.getE; rw [if_pos h1, h3]; exact calm_loadE hc hz
    obtain ⟨e1, e2, e3⟩ := set_first (S := (onS k 1).markS) (A := onA k vs (i + 1)) (z := (k : Int)) (q := 0) hc ⟨by decide, by decide⟩ m1 m2 (by rw [m3]; exact hz) m4 hy 5
    refine ⟨hc, hg, ?_, m6, e1, ?_⟩
    · unfold Sto.getV
      rw [if_pos hg, Int.toNat_natCast, h3]
      exact ext _ _ hh _ _
    · rw [e2, m5, Int.toNat_natCast]
      rw [wk]
      show ((onS k 1).w k).l ≠ 19
      have := h3
      unfold Sto.line at this
      rw [Int.toNat_natCast] at this
      rw [this]; decide

theorem onL_next (vs : Nat → Int) (i : Nat) : onL vs (i + 1) = upd (onL vs i) (i % 8) (vs i) := rfl
theorem yieldsIf_eqlL {ops : Array Oper} {S : World → Prop} {op : Oper} {a : Act} (hw : Region.wanted op (yielded ops a.tmps) = true) (x y : Operand) (ho : op.op = .binOp .eql 56 x y 56)
    (f g : Nat → Int) (hx : a.eval x = .agg (lnV f)) (hy : a.eval y = .agg (lnV g)) : YieldsIf Try.prog ops S op (.bool (eqL f g)) a :=
  .inl ⟨hw, fun w _ => by
    unfold execOp
    simp only [ho, hx, hy, Sem.run_bind, run_eqGuard_agg w .eql 56 x y (lnV f) (lnV g) line_guard, Result.andThen_ok, run_eql_struct, equal_lines, Sem.run_pure]⟩

set_option maxHeartbeats 8000000 in
theorem walk (W : World) (z : Int) (a : Option Addr) (zs : List Int) (n cap : Nat) (wz : (Lit.int .i64 z).wf = true) (hV : IsRow W .u64 a zs n cap) :
    Calls Try.prog 7 #[.int .i64 z, .slice a n cap] W fun e W' => e = .returned (.bool true) ∧ Below W.heap.size W W' := by
  have hz : In64 z := in64_wf wz
  obtain ⟨v1, v2, v3, v4, v5⟩ := hV
  have V1 := hide v1
  have V2 := hide v2
  have V3 : Hid (∀ i, i < n → InU (zs.getD i 0)) := fun i hi => inU_wf (v3 _ (by rw [List.getD_eq_getElem?_getD, List.getElem?_eq_getElem (by omega)]; simp))
  clear v1 v2 v3 wz
  obtain ⟨k, hk⟩ : ∃ k, k = kindN z 12 := ⟨_, rfl⟩
  have hk12 : k < 12 := by rw [hk]; exact kindN_lt _ _ (by decide)
  have CK : Hid (∀ w, Calls Try.prog 16 #[.int .i64 z, .int .i64 12] w fun e w' => e = .returned (.int .i64 (k : Int)) ∧ w' = w) := fun w => by rw [hk]; exact okind_any z hz 12 (by decide) (by decide) w
  clear hk hz
  obtain ⟨n20, hn20⟩ : ∃ n20, n20 = min n 20 := ⟨_, rfl⟩
  have hmn : n20 ≤ n := by omega
  have hm20 : n20 ≤ 20 := by omega
  have hmm : n20 = n ∨ n20 = 20 := by omega
  clear hn20
  go_enter Try.func7, Try.ntmps7
  go_wp2_with fail
  refine (oshown_any W).mono ?_
  rintro e w0 ⟨rfl, hk0⟩
  have HK0 := hide hk0
  clear hk0
  go_wp2_with fail
  refine (new_any w0 100 (by decide) (by decide)).mono ?_
  intro e w1 hm
  obtain ⟨m, rfl, h0, -⟩ := made_has W (unhide HK0) hm (fun _ => False) (fun _ h => h.elim)
  have H0 : Hid (Has W w1 (fun _ => False) m (sA 100)) := h0
  have T0 : Hid (Stay W (fun w G => Has W w G m (sA 100))) := Has.stay W m _
  clear hm h0 HK0
  go_wp2_with fail
  refine (table_any 12 (by decide) w1).mono ?_
  rintro e w2 ⟨rfl, hb⟩
  have H1 : Hid (Has W w2 (fun _ => False) m (sA 100)) := (unhide T0).bl _ _ _ (unhide H0) (Keeps.of_below hb)
  clear hb H0
  go_wp2_with fail
  refine (dir_any w2).mono ?_
  rintro e w3 ⟨rfl, hb⟩
  have H2 : Hid (Has W w3 (fun _ => False) m (sA 100)) := (unhide T0).bl _ _ _ (unhide H1) (Keeps.of_below hb)
  clear hb H1 T0
  go_wp2_with fail
  refine (sof_tbl 12 100 (by decide) (by decide) (by decide) w3 _ (unhide H2)).mono ?_
  rintro e w4 ⟨b, rfl, h1, -⟩
  have HS : Hid (SHas W m b (fun A w G => Has W w G m A) (sS 12 100) (sA 100) w4 (fun _ => False)) := h1
  clear h1 H2
  go_wp2_with fail
  refine (unhide CK _).mono ?_
  rintro e w4 ⟨rfl, rfl⟩
  clear CK
  obtain ⟨vs, hvs⟩ : ∃ vs : Nat → Int, vs = fun i => zs.getD i 0 := ⟨_, rfl⟩
  have HV : Hid (∀ i, i < n20 → InU (vs i)) := fun i hi => by rw [hvs]; exact unhide V3 i (by omega)
  have HVZ : Hid (∀ i, zs.getD i 0 = vs i) := fun i => by rw [hvs]
  have M := hide (Has.memL W m)
  have ES : Hid (onS k 0 = sS 12 100) := rfl
  have HL0 : Hid (∀ w, SRep m (sS 12 100) w b → Calls Try.prog 28 #[.pointer (some ⟨b, 0, none⟩)] w fun e w' => e = .returned (.int .i64 70) ∧ w' = w) := fun w h => by
    have := left_obj h (sS_ok 12 100 (by decide) (by decide))
    rw [(on0 k hk12).2.2.2.2.2] at this; exact this
  clear hvs V3
  go_wp2_with fail
  refine (unhide HL0 _ (unhide HS).rep).mono ?_
  rintro e w4 ⟨rfl, rfl⟩
  clear HL0
  have O0 : Hid (Held W (SHas W m b (fun A w G => Has W w G m A) (onS k 0) (onA k vs 0)) w4 (w4.alloc (.cells (lnV (onL vs 0)) 56)) (fun _ => False) [(w4.heap.size, .cells (lnV (onL vs 0)) 56)]) := (Held.start (SHas.stay (unhide M) b _ _) (unhide HS)).alloc (SHas.stay (unhide M) b _ _) _
  clear HS
  have BZ : Hid (Try.prog.built 56 [] = some (lnV (onL vs 0))) := build_zl
  have s8 := s8_ln (onL vs 0)
  have X8 := hide (lnV_one (onL vs 0))
  have ZL : Hid ((Try.prog.info? 56).map (·.zero) = some (some (.agg (lnV (onL vs 0))))) := by show _ = _; kernel_rfl
  obtain ⟨LV, hLV⟩ : ∃ LV, LV = lnV (onL vs 0) := ⟨_, rfl⟩
  rw [← hLV] at BZ s8 X8 ZL O0
  have HLV := hide hLV
  clear hLV
  go_upto_region 11 with (first | (with_reducible refine wpList_allocZ (by with_unfolding_all rfl) 56 (by with_unfolding_all rfl) LV (unhide ZL) ?_) | (with_reducible refine wpList_build0 (by with_unfolding_all rfl) 56 (by with_unfolding_all rfl) LV (unhide BZ) ?_) | (with_reducible refine wpList_store_row (by with_unfolding_all rfl) 56 _ _ (by with_unfolding_all rfl) w4.heap.size LV (by with_unfolding_all rfl) (by with_unfolding_all rfl) 56 LV (heap_new w4 _) s8 rfl (unhide X8) ?_; rw [setRow_alloc]))
  obtain ⟨g, hg⟩ : ∃ g, g = w4.heap.size := ⟨_, rfl⟩
  rw [← hg] at O0 ⊢
  generalize w4.alloc (.cells LV 56) = w5 at *
  rw [unhide HLV] at O0
  clear BZ s8 X8 ZL HLV hg ES
  have NE : Hid (∀ p ∈ ([] : List (Nat × Obj)), p.1 ≠ g) := by intro p hp; cases hp
  go_wp2_with fail
  go_loopw [13] (fun c wr => ∃ j : Nat, j ≤ n20 ∧ c = .int .i64 j ∧ Held W (SHas W m b (fun A w G => Has W w G m A) (onS k j) (onA k vs j)) w4 wr (fun _ => False) [(g, .cells (lnV (onL vs j)) 56)]) (fun c _ => n20 - (intOf c).toNat)
  case atStart => exact ⟨0, by omega, rfl, unhide O0⟩
  case round =>
    clear O0
    obtain ⟨j, hj, rfl, hh⟩ := hrel
    have HH := hide hh
    clear hh
    by_cases hlt : j < n20
    · obtain ⟨x, off, rfl, hx⟩ : ∃ b off, a = some ⟨b, off, none⟩ ∧ ∀ i, i < zs.length → W.cell? ⟨b, off + i, none⟩ = some (.int .u64 (zs.getD i 0)) := by
        rcases unhide V2 with h | h
        · have := unhide V1; rw [h] at this; simp at this; omega
        · exact h
      have hjn : (j : Int) < (n : Int) := by omega
      have hj20 : (j : Int) < 20 := by omega
      have CX : Hid (∀ (w' : World) S' A', SHas W m b (fun A w G => Has W w G m A) S' A' w' (fun k => False ∨ ∃ o, (k, o) ∈ [(g, Obj.cells (lnV (onL vs j)) 56)]) → w'.cell? ⟨x, off + j, none⟩ = some (.int .u64 (vs j))) := fun w' S' A' h => by
        rw [← unhide HVZ]
        exact h.st.keeps.cellOf (hx j (by have := unhide V1; omega)) id
      have cx := unhide CX _ _ _ (unhide HH).st
      have OS := hide (onS_ok k j hk12)
      have OA := hide (onA_ok k vs n20 (unhide HV) j hj)
      have STP := hide (on_step k hk12 vs j)
      have CS := hide (set_any (unhide M) (unhide HH).st (unhide OS) (ok_mono (unhide OA) (by omega)) (k : Int) ((j : Int) % 8) (vs j) (unhide HV j hlt))
      rw [(unhide STP).1, (unhide STP).2.1] at CS
      have CS2 : Hid (Calls Try.prog 17 #[.pointer (some ⟨b, 0, none⟩), .int .i64 (k : Int), .int .i64 ((j : Int) % 8), .int .u64 (vs j)] wr (Done (SHas W m b (fun A w G => Has W w G m A) (onS k (j + 1)) (onA k vs (j + 1))) wr (fun k => False ∨ ∃ o, (k, o) ∈ [(g, Obj.cells (lnV (onL vs j)) 56)]) (.int .i64 0))) := unhide CS
      have HL1 : Hid (∀ w, SRep m (onS k (j + 1)) w b → Calls Try.prog 28 #[.pointer (some ⟨b, 0, none⟩)] w fun e w' => e = .returned (.int .i64 69) ∧ w' = w) := fun w h => by
        have := left_obj h (onS_ok k (j + 1) hk12)
        rw [onS_one, (on1 k hk12).2.2.2] at this; exact this
      clear hx STP CS OS OA
      obtain ⟨v, hv⟩ : ∃ v, v = vs j := ⟨_, rfl⟩
      rw [← hv] at CX cx CS2
      have LN : Hid (onL vs (j + 1) = upd (onL vs j) (j % 8) v) := by show _ = _; rw [onL_next, hv]
      clear hv
      go_wp2_with fail
      refine (unhide CS2).mono ?_
      rintro e w6 ⟨rfl, h1, h2⟩
      have H2 := hide ((unhide HH).call (St' := SHas W m b (fun A w G => Has W w G m A) (onS k (j + 1)) (onA k vs (j + 1))) h1 h2)
      clear h1 h2 CS2 HH cx
      have cx := unhide CX _ _ _ (unhide H2).st
      have q8 : j % 8 < 8 := Nat.mod_lt _ (by decide)
      have kg := (unhide H2).at g (.cells (lnV (onL vs j)) 56) (by simp)
      have cg : w6.cell? ⟨g, j % 8, none⟩ = some (.int .u64 (onL vs j (j % 8))) := by rw [cell_of_block kg]; exact lnV_get _ _ q8
      have fg : w6.frozen? ⟨g, j % 8, none⟩ = false := unfrozen_of_block kg _
      have H3 := hide ((unhide H2).cellHd (SHas.stay (unhide M) b _ _) (unhide NE) (j % 8) (.int .u64 v))
      rw [lnV_set, ← unhide LN] at H3
      clear kg CX LN
      generalize onL vs j (j % 8) = old at cg
      go_wp2_with fail
      refine (unhide HL1 _ (unhide H2).st.rep).mono ?_
      rintro e w6 ⟨rfl, rfl⟩
      clear HL1 H2
      go_wp2_with fail
      go_roundw
      case rel => exact ⟨j + 1, by omega, by go_num, unhide H3⟩
      case measure => simp [intOf]; omega
    · have hjm : j = n20 := by omega
      by_cases hjn : (j : Int) < (n : Int)
      · have hge : ¬ ((j : Int) < 20) := by omega
        go_upto_region 17 with fail
        have END := on_end k hk12 vs j
        obtain ⟨e1, e2, e3, e4, e5, e6⟩ := END
        have OK1 := onS_ok k j hk12
        have OA1 := onA_ok k vs n20 (unhide HV) j (by omega)
        have CG := hide (fun w G (h : SHas W m b (fun A w G => Has W w G m A) (onS k j) (onA k vs j) w G) => get_any (unhide M) h OA1.2.1 (k : Int))
        have EG : Hid (getT (onS k j) (onA k vs j) (k : Int) = .tuple #[.agg (obV ((onS k j).w k).k ((onS k j).w k).v (onL vs j)), .int .i64 0]) := by show getT _ _ _ = _; unfold getT; rw [e2, e3]
        rw [unhide EG] at CG
        have CM := hide (fun w G (h : SHas W m b (fun A w G => Has W w G m A) (onS k j) (onA k vs j) w G) => mark_obj (unhide M) h)
        rw [e4] at CM
        have CS := hide (fun w G (h : SHas W m b (fun A w G => Has W w G m A) (onS k j).markS (onA k vs j) w G) => set_any (unhide M) h (markS_ok OK1) (ok_mono OA1 (by omega)) (k : Int) 0 5 ⟨by decide, by decide⟩)
        rw [e5] at CS
        have HNE : Hid ((((onS k j).w k).l != (((onS k j).markS.setS (onA k vs j) (k : Int) 0 5).w k).l) = true) := by show _ = true; simpa using e6
        have TS := hide (SHas.stay (unhide M) b (onS k j) (onA k vs j))
        have TM := hide (SHas.stay (unhide M) b (onS k j).markS (onA k vs j))
        have TX := hide (SHas.stay (unhide M) b ((onS k j).markS.setS (onA k vs j) (k : Int) 0 5) ((onS k j).markS.setM (onA k vs j) (k : Int) 0 5))
        clear e1 e2 e3 e4 e5 e6 OK1 OA1 EG hlt hj hjm hge hmn hm20 hmm hjn
        generalize (onS k j).markS.setM (onA k vs j) (k : Int) 0 5 = A9 at *
        generalize (onS k j).markS.setS (onA k vs j) (k : Int) 0 5 = S9 at *
        generalize (onS k j).markS = S8 at *
        generalize onA k vs j = A7 at *
        generalize onS k j = S7 at *
        have RO : Hid (∀ i, i < 8 → (obV (S7.w k).k (S7.w k).v (onL vs j))[2 + i]? = some (.int .u64 (onL vs j i))) := fun i hi => obV_cell _ _ _ i hi
        have s10 := s10_ob (S7.w k).k (S7.w k).v (onL vs j)
        have X10 := hide (obV_one (S7.w k).k (S7.w k).v (onL vs j))
        have Z10 := hide zero_ob
        have SZ10 : Hid ((obV 0 0 fun _ => 0).size = (obV (S7.w k).k (S7.w k).v (onL vs j)).size) := by show _ = _; rw [obV_size, obV_size]
        generalize (obV 0 0 fun _ => 0) = ZO at *
        generalize obV (S7.w k).k (S7.w k).v (onL vs j) = VO at *
        have CT1 : Hid (∀ w G, SHas W m b (fun A w G => Has W w G m A) S7 A7 w G → Calls Try.prog 27 #[.pointer (some ⟨b, 0, none⟩)] w fun e w' => e = .returned (.agg (tabV S7.w)) ∧ Below w.heap.size w w') := fun w G h => table_obj h.rep
        have CT2 : Hid (∀ w G, SHas W m b (fun A w G => Has W w G m A) S9 A9 w G → Calls Try.prog 27 #[.pointer (some ⟨b, 0, none⟩)] w fun e w' => e = .returned (.agg (tabV S9.w)) ∧ Below w.heap.size w w') := fun w G h => table_obj h.rep
        have s1 := s147_tab S7.w
        have s2 := s147_tab S9.w
        have X1 := hide (tabV_one S7.w)
        have X2 := hide (tabV_one S9.w)
        have Z1 := hide zero_tab
        have SZ1 : Hid ((tabV fun _ => ze).size = (tabV S7.w).size) := by show _ = _; rw [tabV_size, tabV_size]
        have SZ2 : Hid ((tabV fun _ => ze).size = (tabV S9.w).size) := by show _ = _; rw [tabV_size, tabV_size]
        generalize (tabV fun _ => ze) = ZV at *
        have L1 : Hid ((tabV S7.w)[k * 3 + 2]? = some (.int .i64 (S7.w k).l)) := by show _ = _; rw [tabV_cell _ _ (by omega), fl3_2]
        have L2 : Hid ((tabV S9.w)[k * 3 + 2]? = some (.int .i64 (S9.w k).l)) := by show _ = _; rw [tabV_cell _ _ (by omega), fl3_2]
        obtain ⟨l1, hl1⟩ : ∃ l1, l1 = (S7.w k).l := ⟨_, rfl⟩
        obtain ⟨l2, hl2⟩ : ∃ l2, l2 = (S9.w k).l := ⟨_, rfl⟩
        rw [← hl1] at L1 HNE
        rw [← hl2] at L2 HNE
        clear hl1 hl2
        generalize tabV S7.w = TA at *
        generalize tabV S9.w = TB at *
        go_wp2_with fail
        refine (unhide CG _ _ (unhide HH).st).mono ?_
        rintro e w7 ⟨rfl, h1, h2⟩
        have O1 := hide (((unhide HH).call (St' := SHas W m b (fun A w G => Has W w G m A) S7 A7) h1 h2).alloc (unhide TS) (.cells VO 77))
        clear h1 h2 HH CG
        go_upto_region 18 with (first | (with_reducible refine wpList_allocZ (by with_unfolding_all rfl) 77 (by with_unfolding_all rfl) ZO (unhide Z10) ?_) | (with_reducible refine wpList_store_row (by with_unfolding_all rfl) 77 _ _ (by with_unfolding_all rfl) w7.heap.size VO (by with_unfolding_all rfl) (by with_unfolding_all rfl) 77 ZO (heap_new w7 _) s10 (unhide SZ10) (unhide X10) ?_; rw [setRow_alloc]))
        obtain ⟨g14, hg14⟩ : ∃ g14, g14 = w7.heap.size := ⟨_, rfl⟩
        rw [← hg14] at O1 ⊢
        clear hg14
        generalize w7.alloc (.cells VO 77) = w8 at *
        go_wp2_with fail
        refine (unhide CT1 _ _ (unhide O1).st).mono ?_
        rintro e w9 ⟨rfl, hb⟩
        have O2 := hide (((unhide O1).below (unhide TS) hb).alloc (unhide TS) (.cells TA 59))
        clear hb O1 CT1
        go_upto_region 19 with (first | (with_reducible refine wpList_allocZ (by with_unfolding_all rfl) 59 (by with_unfolding_all rfl) ZV (unhide Z1) ?_) | (with_reducible refine wpList_store_row (by with_unfolding_all rfl) 59 _ _ (by with_unfolding_all rfl) w9.heap.size TA (by with_unfolding_all rfl) (by with_unfolding_all rfl) 59 ZV (heap_new w9 _) s1 (unhide SZ1) (unhide X1) ?_; rw [setRow_alloc]))
        obtain ⟨g16, hg16⟩ : ∃ g16, g16 = w9.heap.size := ⟨_, rfl⟩
        rw [← hg16] at O2 ⊢
        clear hg16
        generalize w9.alloc (.cells TA 59) = w10 at *
        go_wp2_with fail
        refine (unhide CM _ _ (unhide O2).st).mono ?_
        rintro e w11 ⟨rfl, h1, h2⟩
        have O3 := hide ((unhide O2).call (St' := SHas W m b (fun A w G => Has W w G m A) S8 A7) h1 h2)
        clear h1 h2 O2 CM
        go_wp2_with fail
        refine (unhide CS _ _ (unhide O3).st).mono ?_
        rintro e w12 ⟨rfl, h1, h2⟩
        have O4 := hide ((unhide O3).call (St' := SHas W m b (fun A w G => Has W w G m A) S9 A9) h1 h2)
        clear h1 h2 O3 CS
        go_wp2_with fail
        refine (unhide CT2 _ _ (unhide O4).st).mono ?_
        rintro e w13 ⟨rfl, hb⟩
        have O5 := hide (((unhide O4).below (unhide TX) hb).alloc (unhide TX) (.cells TB 59))
        clear hb O4 CT2
        go_upto_region 22 with (first | (with_reducible refine wpList_allocZ (by with_unfolding_all rfl) 59 (by with_unfolding_all rfl) ZV (unhide Z1) ?_) | (with_reducible refine wpList_store_row (by with_unfolding_all rfl) 59 _ _ (by with_unfolding_all rfl) w13.heap.size TB (by with_unfolding_all rfl) (by with_unfolding_all rfl) 59 ZV (heap_new w13 _) s2 (unhide SZ2) (unhide X2) ?_; rw [setRow_alloc]))
        obtain ⟨g19, hg19⟩ : ∃ g19, g19 = w13.heap.size := ⟨_, rfl⟩
        rw [← hg19] at O5 ⊢
        clear hg19
        generalize w13.alloc (.cells TB 59) = w14 at *
        have O6 := hide ((unhide O5).drew (unhide TX))
        have c16 : w14.drew.cell? ⟨g16, k * 3 + 2, none⟩ = some (.int .i64 l1) := by rw [cell_of_block ((unhide O6).at g16 (.cells TA 59) (by simp))]; exact unhide L1
        have c19 : w14.drew.cell? ⟨g19, k * 3 + 2, none⟩ = some (.int .i64 l2) := by rw [cell_of_block ((unhide O6).at g19 (.cells TB 59) (by simp))]; exact unhide L2
        have r14 : w14.drew.rangeAt g14 2 (lnV (onL vs j)).toList := fun i v hv => by
          have hi : i < 8 := by
            rcases Nat.lt_or_ge i 8 with h' | h'
            · exact h'
            · rw [Array.getElem?_toList, Array.getElem?_eq_none (by rw [lnV_size]; exact h')] at hv; cases hv
          rw [Array.getElem?_toList, lnV_get _ _ hi] at hv
          rw [cell_of_block ((unhide O6).at g14 (.cells VO 77) (by simp)), unhide RO i hi]; exact hv
        have r12 : w14.drew.rangeAt g 0 (lnV (onL vs j)).toList := fun i v hv => by
          rw [cell_of_block ((unhide O6).at g (.cells (lnV (onL vs j)) 56) (by simp)), Nat.zero_add, ← Array.getElem?_toList]; exact hv
        have HK : Hid (Keeps (fun _ => False) W w14.drew) := (unhide TX).sz _ _ (unhide O6).1
        have s8 : (Try.prog.info? 56).map (·.size) = some (lnV (onL vs j)).toList.length := by rw [Array.length_toList]; exact s8_ln _
        have hk49 : (k : Int) < 49 := by omega
        have hk0 : (0 : Int) ≤ (k : Int) := by omega
        have hne := unhide HNE
        have EQ : Hid (eqL (onL vs j) (onL vs j) = true) := eqL_refl _
        clear O5 TS TM TX L1 L2 s1 s2 X1 X2 Z1 SZ1 SZ2 s10 X10 Z10 SZ10 RO V1 V2 HV HVZ M HNE
        generalize onL vs j = LL at *
        refine wp_region_noPanic ?_
        refine wp_region_held_drew (S := fun w' => w'.cell? ⟨g16, k * 3 + 2, none⟩ = some (.int .i64 l1) ∧ w'.cell? ⟨g19, k * 3 + 2, none⟩ = some (.int .i64 l2) ∧ w'.rangeAt g14 2 (lnV LL).toList ∧ w'.rangeAt g 0 (lnV LL).toList) (by kernel_rfl) ⟨c16, c19, r14, r12⟩ (fun hHeld => ?_)
        clear c16 c19 r14 r12 O6
        generalize w14.drew = wz at *
        refine take_at 0 94 (v := ?_) rfl rfl (by kernel_rfl) (by kernel_rfl) (by kernel_rfl) (Or.inl ⟨by rfl, ?_⟩) hHeld ?_
        rotate_left
        · intro w hSw; go_simp; with_reducible rfl
        simp only [Act.put, List.setIfInBounds_toArray, List.set_cons_zero, List.set_cons_succ]
        refine take_at 1 95 (v := ?_) rfl rfl (by kernel_rfl) (by kernel_rfl) (by kernel_rfl) (Or.inl ⟨by rfl, ?_⟩) hHeld ?_
        rotate_left
        · intro w hSw; go_simp; with_reducible rfl
        simp only [Act.put, List.setIfInBounds_toArray, List.set_cons_zero, List.set_cons_succ]
        refine take_at 2 96 (v := ?_) rfl rfl (by kernel_rfl) (by kernel_rfl) (by kernel_rfl) (Or.inl ⟨by rfl, ?_⟩) hHeld ?_
        rotate_left
        · intro w hSw; go_simp; with_reducible rfl
        simp only [Act.put, List.setIfInBounds_toArray, List.set_cons_zero, List.set_cons_succ]
        refine take_at 3 97 (v := ?_) rfl rfl (by kernel_rfl) (by kernel_rfl) (by kernel_rfl) (Or.inl ⟨by rfl, ?_⟩) hHeld ?_
        rotate_left
        · intro w hSw; go_simp; with_reducible rfl
        simp only [Act.put, List.setIfInBounds_toArray, List.set_cons_zero, List.set_cons_succ]
        refine take_at 4 98 rfl rfl (by kernel_rfl) (by kernel_rfl) (by kernel_rfl) (yieldsIf_load_mid (by rfl) 56 _ rfl g14 2 rfl (lnV LL).toList _ (fun w' h => h.2.2.1) Try.underlying56 rfl s8) hHeld ?_
        simp only [Act.put, List.setIfInBounds_toArray, List.set_cons_zero, List.set_cons_succ]
        refine take_at 5 99 rfl rfl (by kernel_rfl) (by kernel_rfl) (by kernel_rfl) (yieldsIf_load_mid (by rfl) 56 _ rfl g 0 rfl (lnV LL).toList _ (fun w' h => h.2.2.2) Try.underlying56 rfl s8) hHeld ?_
        simp only [Act.put, List.setIfInBounds_toArray, List.set_cons_zero, List.set_cons_succ]
        refine take_at 6 100 rfl rfl (by kernel_rfl) (by kernel_rfl) (by kernel_rfl) (yieldsIf_eqlL (by rfl) (.tmp 98) (.tmp 99) rfl LL LL rfl rfl) hHeld ?_
        simp only [Act.put, List.setIfInBounds_toArray, List.set_cons_zero, List.set_cons_succ]
        rw [unhide EQ]
        refine take_at 7 101 (v := ?_) rfl rfl (by kernel_rfl) (by kernel_rfl) (by kernel_rfl) (Or.inl ⟨by rfl, ?_⟩) hHeld ?_
        rotate_left
        · intro w hSw; go_simp; with_reducible rfl
        simp only [Act.put, List.setIfInBounds_toArray, List.set_cons_zero, List.set_cons_succ]
        refine take_at 8 102 (v := ?_) rfl rfl (by kernel_rfl) (by kernel_rfl) (by kernel_rfl) (Or.inl ⟨by rfl, ?_⟩) hHeld ?_
        rotate_left
        · intro w hSw; go_simp; with_reducible rfl
        simp only [Act.put, List.setIfInBounds_toArray, List.set_cons_zero, List.set_cons_succ]
        refine take_at 9 103 (v := ?_) rfl rfl (by kernel_rfl) (by kernel_rfl) (by kernel_rfl) (Or.inl ⟨by rfl, ?_⟩) hHeld ?_
        rotate_left
        · intro w hSw; go_simp; with_reducible rfl
        simp only [Act.put, List.setIfInBounds_toArray, List.set_cons_zero, List.set_cons_succ]
        refine take_at 10 104 (v := ?_) rfl rfl (by kernel_rfl) (by kernel_rfl) (by kernel_rfl) (Or.inl ⟨by rfl, ?_⟩) hHeld ?_
        rotate_left
        · intro w hSw; go_simp; with_reducible rfl
        simp only [Act.put, List.setIfInBounds_toArray, List.set_cons_zero, List.set_cons_succ]
        refine take_at 11 105 (v := ?_) rfl rfl (by kernel_rfl) (by kernel_rfl) (by kernel_rfl) (Or.inl ⟨by rfl, ?_⟩) hHeld ?_
        rotate_left
        · intro w hSw; go_simp; with_reducible rfl
        simp only [Act.put, List.setIfInBounds_toArray, List.set_cons_zero, List.set_cons_succ]
        refine take_at 12 106 (v := ?_) rfl rfl (by kernel_rfl) (by kernel_rfl) (by kernel_rfl) (Or.inl ⟨by rfl, ?_⟩) hHeld ?_
        rotate_left
        · intro w hSw; go_simp; with_reducible rfl
        simp only [Act.put, List.setIfInBounds_toArray, List.set_cons_zero, List.set_cons_succ]
        refine take_at 13 107 (v := ?_) rfl rfl (by kernel_rfl) (by kernel_rfl) (by kernel_rfl) (Or.inl ⟨by rfl, ?_⟩) hHeld ?_
        rotate_left
        · intro w hSw; go_simp; with_reducible rfl
        simp only [Act.put, List.setIfInBounds_toArray, List.set_cons_zero, List.set_cons_succ]
        refine take_at 14 108 (v := ?_) rfl rfl (by kernel_rfl) (by kernel_rfl) (by kernel_rfl) (Or.inl ⟨by rfl, ?_⟩) hHeld ?_
        rotate_left
        · intro w hSw; go_simp; with_reducible rfl
        simp only [Act.put, List.setIfInBounds_toArray, List.set_cons_zero, List.set_cons_succ]
        refine take_at 15 109 (v := ?_) rfl rfl (by kernel_rfl) (by kernel_rfl) (by kernel_rfl) (Or.inl ⟨by rfl, ?_⟩) hHeld ?_
        rotate_left
        · intro w hSw; go_simp; with_reducible rfl
        simp only [Act.put, List.setIfInBounds_toArray, List.set_cons_zero, List.set_cons_succ]
        refine take_at 16 110 (v := ?_) rfl rfl (by kernel_rfl) (by kernel_rfl) (by kernel_rfl) (Or.inl ⟨by rfl, ?_⟩) hHeld ?_
        rotate_left
        · intro w hSw; go_simp; with_reducible rfl
        simp only [Act.put, List.setIfInBounds_toArray, List.set_cons_zero, List.set_cons_succ]
        refine take_at 17 111 (v := ?_) rfl rfl (by kernel_rfl) (by kernel_rfl) (by kernel_rfl) (Or.inl ⟨by rfl, ?_⟩) hHeld ?_
        rotate_left
        · intro w hSw; go_simp; with_reducible rfl
        simp only [Act.put, List.setIfInBounds_toArray, List.set_cons_zero, List.set_cons_succ]
        refine take_at 18 112 (v := .pointer (some ⟨g16, k * 3, none⟩)) rfl rfl (by kernel_rfl) (by kernel_rfl) (by kernel_rfl) (Or.inl ⟨by rfl, ?_⟩) hHeld ?_
        · intro w hSw; first | (go_simp; done) | (go_simp; rfl)
        simp only [Act.put, List.setIfInBounds_toArray, List.set_cons_zero, List.set_cons_succ]
        refine take_at 19 113 (v := ?_) rfl rfl (by kernel_rfl) (by kernel_rfl) (by kernel_rfl) (Or.inl ⟨by rfl, ?_⟩) hHeld ?_
        rotate_left
        · intro w hSw; go_simp; with_reducible rfl
        simp only [Act.put, List.setIfInBounds_toArray, List.set_cons_zero, List.set_cons_succ]
        refine take_at 20 114 (v := ?_) rfl rfl (by kernel_rfl) (by kernel_rfl) (by kernel_rfl) (Or.inl ⟨by rfl, ?_⟩) hHeld ?_
        rotate_left
        · intro w hSw; obtain ⟨s1, s2, s3, s4⟩ := hSw; go_simp; with_reducible rfl
        simp only [Act.put, List.setIfInBounds_toArray, List.set_cons_zero, List.set_cons_succ]
        refine take_at 21 115 (v := ?_) rfl rfl (by kernel_rfl) (by kernel_rfl) (by kernel_rfl) (Or.inl ⟨by rfl, ?_⟩) hHeld ?_
        rotate_left
        · intro w hSw; go_simp; with_reducible rfl
        simp only [Act.put, List.setIfInBounds_toArray, List.set_cons_zero, List.set_cons_succ]
        refine take_at 22 116 (v := .pointer (some ⟨g19, k * 3, none⟩)) rfl rfl (by kernel_rfl) (by kernel_rfl) (by kernel_rfl) (Or.inl ⟨by rfl, ?_⟩) hHeld ?_
        · intro w hSw; first | (go_simp; done) | (go_simp; rfl)
        simp only [Act.put, List.setIfInBounds_toArray, List.set_cons_zero, List.set_cons_succ]
        refine take_at 23 117 (v := ?_) rfl rfl (by kernel_rfl) (by kernel_rfl) (by kernel_rfl) (Or.inl ⟨by rfl, ?_⟩) hHeld ?_
        rotate_left
        · intro w hSw; go_simp; with_reducible rfl
        simp only [Act.put, List.setIfInBounds_toArray, List.set_cons_zero, List.set_cons_succ]
        refine take_at 24 118 (v := ?_) rfl rfl (by kernel_rfl) (by kernel_rfl) (by kernel_rfl) (Or.inl ⟨by rfl, ?_⟩) hHeld ?_
        rotate_left
        · intro w hSw; obtain ⟨s1, s2, s3, s4⟩ := hSw; go_simp; with_reducible rfl
        simp only [Act.put, List.setIfInBounds_toArray, List.set_cons_zero, List.set_cons_succ]
        refine take_at 25 119 (v := ?_) rfl rfl (by kernel_rfl) (by kernel_rfl) (by kernel_rfl) (Or.inl ⟨by rfl, ?_⟩) hHeld ?_
        rotate_left
        · intro w hSw; go_simp; with_reducible rfl
        simp only [Act.put, List.setIfInBounds_toArray, List.set_cons_zero, List.set_cons_succ]
        refine take_at 26 120 (v := ?_) rfl rfl (by kernel_rfl) (by kernel_rfl) (by kernel_rfl) (Or.inl ⟨by rfl, ?_⟩) hHeld ?_
        rotate_left
        · intro w hSw; go_simp; with_reducible rfl
        simp only [Act.put, List.setIfInBounds_toArray, List.set_cons_zero, List.set_cons_succ]
        refine take_at 27 4 (v := ?_) rfl rfl (by kernel_rfl) (by kernel_rfl) (by kernel_rfl) (Or.inl ⟨by rfl, ?_⟩) hHeld ?_
        rotate_left
        · intro w hSw; go_simp; with_reducible rfl
        simp only [Act.put, List.setIfInBounds_toArray, List.set_cons_zero, List.set_cons_succ]
        refine wpAnyH_done (by kernel_rfl) ?_ _
        refine NoPanic.normal ?_
        clear hHeld
        go_wp2_with fail
        go_ret
        exact ⟨rfl, (unhide HK).below (Nat.le_refl _) (fun _ h => h.elim)⟩
      · have hge : ¬ ((j : Int) < (n : Int)) := hjn
        go_upto_region 17 with fail
        have END := on_end k hk12 vs j
        obtain ⟨e1, e2, e3, e4, e5, e6⟩ := END
        have OK1 := onS_ok k j hk12
        have OA1 := onA_ok k vs n20 (unhide HV) j (by omega)
        have CG := hide (fun w G (h : SHas W m b (fun A w G => Has W w G m A) (onS k j) (onA k vs j) w G) => get_any (unhide M) h OA1.2.1 (k : Int))
        have EG : Hid (getT (onS k j) (onA k vs j) (k : Int) = .tuple #[.agg (obV ((onS k j).w k).k ((onS k j).w k).v (onL vs j)), .int .i64 0]) := by show getT _ _ _ = _; unfold getT; rw [e2, e3]
        rw [unhide EG] at CG
        have CM := hide (fun w G (h : SHas W m b (fun A w G => Has W w G m A) (onS k j) (onA k vs j) w G) => mark_obj (unhide M) h)
        rw [e4] at CM
        have CS := hide (fun w G (h : SHas W m b (fun A w G => Has W w G m A) (onS k j).markS (onA k vs j) w G) => set_any (unhide M) h (markS_ok OK1) (ok_mono OA1 (by omega)) (k : Int) 0 5 ⟨by decide, by decide⟩)
        rw [e5] at CS
        have HNE : Hid ((((onS k j).w k).l != (((onS k j).markS.setS (onA k vs j) (k : Int) 0 5).w k).l) = true) := by show _ = true; simpa using e6
        have TS := hide (SHas.stay (unhide M) b (onS k j) (onA k vs j))
        have TM := hide (SHas.stay (unhide M) b (onS k j).markS (onA k vs j))
        have TX := hide (SHas.stay (unhide M) b ((onS k j).markS.setS (onA k vs j) (k : Int) 0 5) ((onS k j).markS.setM (onA k vs j) (k : Int) 0 5))
        clear e1 e2 e3 e4 e5 e6 OK1 OA1 EG hlt hj hjm hge hmn hm20 hmm hjn
        generalize (onS k j).markS.setM (onA k vs j) (k : Int) 0 5 = A9 at *
        generalize (onS k j).markS.setS (onA k vs j) (k : Int) 0 5 = S9 at *
        generalize (onS k j).markS = S8 at *
        generalize onA k vs j = A7 at *
        generalize onS k j = S7 at *
        have RO : Hid (∀ i, i < 8 → (obV (S7.w k).k (S7.w k).v (onL vs j))[2 + i]? = some (.int .u64 (onL vs j i))) := fun i hi => obV_cell _ _ _ i hi
        have s10 := s10_ob (S7.w k).k (S7.w k).v (onL vs j)
        have X10 := hide (obV_one (S7.w k).k (S7.w k).v (onL vs j))
        have Z10 := hide zero_ob
        have SZ10 : Hid ((obV 0 0 fun _ => 0).size = (obV (S7.w k).k (S7.w k).v (onL vs j)).size) := by show _ = _; rw [obV_size, obV_size]
        generalize (obV 0 0 fun _ => 0) = ZO at *
        generalize obV (S7.w k).k (S7.w k).v (onL vs j) = VO at *
        have CT1 : Hid (∀ w G, SHas W m b (fun A w G => Has W w G m A) S7 A7 w G → Calls Try.prog 27 #[.pointer (some ⟨b, 0, none⟩)] w fun e w' => e = .returned (.agg (tabV S7.w)) ∧ Below w.heap.size w w') := fun w G h => table_obj h.rep
        have CT2 : Hid (∀ w G, SHas W m b (fun A w G => Has W w G m A) S9 A9 w G → Calls Try.prog 27 #[.pointer (some ⟨b, 0, none⟩)] w fun e w' => e = .returned (.agg (tabV S9.w)) ∧ Below w.heap.size w w') := fun w G h => table_obj h.rep
        have s1 := s147_tab S7.w
        have s2 := s147_tab S9.w
        have X1 := hide (tabV_one S7.w)
        have X2 := hide (tabV_one S9.w)
        have Z1 := hide zero_tab
        have SZ1 : Hid ((tabV fun _ => ze).size = (tabV S7.w).size) := by show _ = _; rw [tabV_size, tabV_size]
        have SZ2 : Hid ((tabV fun _ => ze).size = (tabV S9.w).size) := by show _ = _; rw [tabV_size, tabV_size]
        generalize (tabV fun _ => ze) = ZV at *
        have L1 : Hid ((tabV S7.w)[k * 3 + 2]? = some (.int .i64 (S7.w k).l)) := by show _ = _; rw [tabV_cell _ _ (by omega), fl3_2]
        have L2 : Hid ((tabV S9.w)[k * 3 + 2]? = some (.int .i64 (S9.w k).l)) := by show _ = _; rw [tabV_cell _ _ (by omega), fl3_2]
        obtain ⟨l1, hl1⟩ : ∃ l1, l1 = (S7.w k).l := ⟨_, rfl⟩
        obtain ⟨l2, hl2⟩ : ∃ l2, l2 = (S9.w k).l := ⟨_, rfl⟩
        rw [← hl1] at L1 HNE
        rw [← hl2] at L2 HNE
        clear hl1 hl2
        generalize tabV S7.w = TA at *
        generalize tabV S9.w = TB at *
        go_wp2_with fail
        refine (unhide CG _ _ (unhide HH).st).mono ?_
        rintro e w7 ⟨rfl, h1, h2⟩
        have O1 := hide (((unhide HH).call (St' := SHas W m b (fun A w G => Has W w G m A) S7 A7) h1 h2).alloc (unhide TS) (.cells VO 77))
        clear h1 h2 HH CG
        go_upto_region 18 with (first | (with_reducible refine wpList_allocZ (by with_unfolding_all rfl) 77 (by with_unfolding_all rfl) ZO (unhide Z10) ?_) | (with_reducible refine wpList_store_row (by with_unfolding_all rfl) 77 _ _ (by with_unfolding_all rfl) w7.heap.size VO (by with_unfolding_all rfl) (by with_unfolding_all rfl) 77 ZO (heap_new w7 _) s10 (unhide SZ10) (unhide X10) ?_; rw [setRow_alloc]))
        obtain ⟨g14, hg14⟩ : ∃ g14, g14 = w7.heap.size := ⟨_, rfl⟩
        rw [← hg14] at O1 ⊢
        clear hg14
        generalize w7.alloc (.cells VO 77) = w8 at *
        go_wp2_with fail
        refine (unhide CT1 _ _ (unhide O1).st).mono ?_
        rintro e w9 ⟨rfl, hb⟩
        have O2 := hide (((unhide O1).below (unhide TS) hb).alloc (unhide TS) (.cells TA 59))
        clear hb O1 CT1
        go_upto_region 19 with (first | (with_reducible refine wpList_allocZ (by with_unfolding_all rfl) 59 (by with_unfolding_all rfl) ZV (unhide Z1) ?_) | (with_reducible refine wpList_store_row (by with_unfolding_all rfl) 59 _ _ (by with_unfolding_all rfl) w9.heap.size TA (by with_unfolding_all rfl) (by with_unfolding_all rfl) 59 ZV (heap_new w9 _) s1 (unhide SZ1) (unhide X1) ?_; rw [setRow_alloc]))
        obtain ⟨g16, hg16⟩ : ∃ g16, g16 = w9.heap.size := ⟨_, rfl⟩
        rw [← hg16] at O2 ⊢
        clear hg16
        generalize w9.alloc (.cells TA 59) = w10 at *
        go_wp2_with fail
        refine (unhide CM _ _ (unhide O2).st).mono ?_
        rintro e w11 ⟨rfl, h1, h2⟩
        have O3 := hide ((unhide O2).call (St' := SHas W m b (fun A w G => Has W w G m A) S8 A7) h1 h2)
        clear h1 h2 O2 CM
        go_wp2_with fail
        refine (unhide CS _ _ (unhide O3).st).mono ?_
        rintro e w12 ⟨rfl, h1, h2⟩
        have O4 := hide ((unhide O3).call (St' := SHas W m b (fun A w G => Has W w G m A) S9 A9) h1 h2)
        clear h1 h2 O3 CS
        go_wp2_with fail
        refine (unhide CT2 _ _ (unhide O4).st).mono ?_
        rintro e w13 ⟨rfl, hb⟩
        have O5 := hide (((unhide O4).below (unhide TX) hb).alloc (unhide TX) (.cells TB 59))
        clear hb O4 CT2
        go_upto_region 22 with (first | (with_reducible refine wpList_allocZ (by with_unfolding_all rfl) 59 (by with_unfolding_all rfl) ZV (unhide Z1) ?_) | (with_reducible refine wpList_store_row (by with_unfolding_all rfl) 59 _ _ (by with_unfolding_all rfl) w13.heap.size TB (by with_unfolding_all rfl) (by with_unfolding_all rfl) 59 ZV (heap_new w13 _) s2 (unhide SZ2) (unhide X2) ?_; rw [setRow_alloc]))
        obtain ⟨g19, hg19⟩ : ∃ g19, g19 = w13.heap.size := ⟨_, rfl⟩
        rw [← hg19] at O5 ⊢
        clear hg19
        generalize w13.alloc (.cells TB 59) = w14 at *
        have O6 := hide ((unhide O5).drew (unhide TX))
        have c16 : w14.drew.cell? ⟨g16, k * 3 + 2, none⟩ = some (.int .i64 l1) := by rw [cell_of_block ((unhide O6).at g16 (.cells TA 59) (by simp))]; exact unhide L1
        have c19 : w14.drew.cell? ⟨g19, k * 3 + 2, none⟩ = some (.int .i64 l2) := by rw [cell_of_block ((unhide O6).at g19 (.cells TB 59) (by simp))]; exact unhide L2
        have r14 : w14.drew.rangeAt g14 2 (lnV (onL vs j)).toList := fun i v hv => by
          have hi : i < 8 := by
            rcases Nat.lt_or_ge i 8 with h' | h'
            · exact h'
            · rw [Array.getElem?_toList, Array.getElem?_eq_none (by rw [lnV_size]; exact h')] at hv; cases hv
          rw [Array.getElem?_toList, lnV_get _ _ hi] at hv
          rw [cell_of_block ((unhide O6).at g14 (.cells VO 77) (by simp)), unhide RO i hi]; exact hv
        have r12 : w14.drew.rangeAt g 0 (lnV (onL vs j)).toList := fun i v hv => by
          rw [cell_of_block ((unhide O6).at g (.cells (lnV (onL vs j)) 56) (by simp)), Nat.zero_add, ← Array.getElem?_toList]; exact hv
        have HK : Hid (Keeps (fun _ => False) W w14.drew) := (unhide TX).sz _ _ (unhide O6).1
        have s8 : (Try.prog.info? 56).map (·.size) = some (lnV (onL vs j)).toList.length := by rw [Array.length_toList]; exact s8_ln _
        have hk49 : (k : Int) < 49 := by omega
        have hk0 : (0 : Int) ≤ (k : Int) := by omega
        have hne := unhide HNE
        have EQ : Hid (eqL (onL vs j) (onL vs j) = true) := eqL_refl _
        clear O5 TS TM TX L1 L2 s1 s2 X1 X2 Z1 SZ1 SZ2 s10 X10 Z10 SZ10 RO V1 V2 HV HVZ M HNE
        generalize onL vs j = LL at *
        refine wp_region_noPanic ?_
        refine wp_region_held_drew (S := fun w' => w'.cell? ⟨g16, k * 3 + 2, none⟩ = some (.int .i64 l1) ∧ w'.cell? ⟨g19, k * 3 + 2, none⟩ = some (.int .i64 l2) ∧ w'.rangeAt g14 2 (lnV LL).toList ∧ w'.rangeAt g 0 (lnV LL).toList) (by kernel_rfl) ⟨c16, c19, r14, r12⟩ (fun hHeld => ?_)
        clear c16 c19 r14 r12 O6
        generalize w14.drew = wz at *
        refine take_at 0 94 (v := ?_) rfl rfl (by kernel_rfl) (by kernel_rfl) (by kernel_rfl) (Or.inl ⟨by rfl, ?_⟩) hHeld ?_
        rotate_left
        · intro w hSw; go_simp; with_reducible rfl
        simp only [Act.put, List.setIfInBounds_toArray, List.set_cons_zero, List.set_cons_succ]
        refine take_at 1 95 (v := ?_) rfl rfl (by kernel_rfl) (by kernel_rfl) (by kernel_rfl) (Or.inl ⟨by rfl, ?_⟩) hHeld ?_
        rotate_left
        · intro w hSw; go_simp; with_reducible rfl
        simp only [Act.put, List.setIfInBounds_toArray, List.set_cons_zero, List.set_cons_succ]
        refine take_at 2 96 (v := ?_) rfl rfl (by kernel_rfl) (by kernel_rfl) (by kernel_rfl) (Or.inl ⟨by rfl, ?_⟩) hHeld ?_
        rotate_left
        · intro w hSw; go_simp; with_reducible rfl
        simp only [Act.put, List.setIfInBounds_toArray, List.set_cons_zero, List.set_cons_succ]
        refine take_at 3 97 (v := ?_) rfl rfl (by kernel_rfl) (by kernel_rfl) (by kernel_rfl) (Or.inl ⟨by rfl, ?_⟩) hHeld ?_
        rotate_left
        · intro w hSw; go_simp; with_reducible rfl
        simp only [Act.put, List.setIfInBounds_toArray, List.set_cons_zero, List.set_cons_succ]
        refine take_at 4 98 rfl rfl (by kernel_rfl) (by kernel_rfl) (by kernel_rfl) (yieldsIf_load_mid (by rfl) 56 _ rfl g14 2 rfl (lnV LL).toList _ (fun w' h => h.2.2.1) Try.underlying56 rfl s8) hHeld ?_
        simp only [Act.put, List.setIfInBounds_toArray, List.set_cons_zero, List.set_cons_succ]
        refine take_at 5 99 rfl rfl (by kernel_rfl) (by kernel_rfl) (by kernel_rfl) (yieldsIf_load_mid (by rfl) 56 _ rfl g 0 rfl (lnV LL).toList _ (fun w' h => h.2.2.2) Try.underlying56 rfl s8) hHeld ?_
        simp only [Act.put, List.setIfInBounds_toArray, List.set_cons_zero, List.set_cons_succ]
        refine take_at 6 100 rfl rfl (by kernel_rfl) (by kernel_rfl) (by kernel_rfl) (yieldsIf_eqlL (by rfl) (.tmp 98) (.tmp 99) rfl LL LL rfl rfl) hHeld ?_
        simp only [Act.put, List.setIfInBounds_toArray, List.set_cons_zero, List.set_cons_succ]
        rw [unhide EQ]
        refine take_at 7 101 (v := ?_) rfl rfl (by kernel_rfl) (by kernel_rfl) (by kernel_rfl) (Or.inl ⟨by rfl, ?_⟩) hHeld ?_
        rotate_left
        · intro w hSw; go_simp; with_reducible rfl
        simp only [Act.put, List.setIfInBounds_toArray, List.set_cons_zero, List.set_cons_succ]
        refine take_at 8 102 (v := ?_) rfl rfl (by kernel_rfl) (by kernel_rfl) (by kernel_rfl) (Or.inl ⟨by rfl, ?_⟩) hHeld ?_
        rotate_left
        · intro w hSw; go_simp; with_reducible rfl
        simp only [Act.put, List.setIfInBounds_toArray, List.set_cons_zero, List.set_cons_succ]
        refine take_at 9 103 (v := ?_) rfl rfl (by kernel_rfl) (by kernel_rfl) (by kernel_rfl) (Or.inl ⟨by rfl, ?_⟩) hHeld ?_
        rotate_left
        · intro w hSw; go_simp; with_reducible rfl
        simp only [Act.put, List.setIfInBounds_toArray, List.set_cons_zero, List.set_cons_succ]
        refine take_at 10 104 (v := ?_) rfl rfl (by kernel_rfl) (by kernel_rfl) (by kernel_rfl) (Or.inl ⟨by rfl, ?_⟩) hHeld ?_
        rotate_left
        · intro w hSw; go_simp; with_reducible rfl
        simp only [Act.put, List.setIfInBounds_toArray, List.set_cons_zero, List.set_cons_succ]
        refine take_at 11 105 (v := ?_) rfl rfl (by kernel_rfl) (by kernel_rfl) (by kernel_rfl) (Or.inl ⟨by rfl, ?_⟩) hHeld ?_
        rotate_left
        · intro w hSw; go_simp; with_reducible rfl
        simp only [Act.put, List.setIfInBounds_toArray, List.set_cons_zero, List.set_cons_succ]
        refine take_at 12 106 (v := ?_) rfl rfl (by kernel_rfl) (by kernel_rfl) (by kernel_rfl) (Or.inl ⟨by rfl, ?_⟩) hHeld ?_
        rotate_left
        · intro w hSw; go_simp; with_reducible rfl
        simp only [Act.put, List.setIfInBounds_toArray, List.set_cons_zero, List.set_cons_succ]
        refine take_at 13 107 (v := ?_) rfl rfl (by kernel_rfl) (by kernel_rfl) (by kernel_rfl) (Or.inl ⟨by rfl, ?_⟩) hHeld ?_
        rotate_left
        · intro w hSw; go_simp; with_reducible rfl
        simp only [Act.put, List.setIfInBounds_toArray, List.set_cons_zero, List.set_cons_succ]
        refine take_at 14 108 (v := ?_) rfl rfl (by kernel_rfl) (by kernel_rfl) (by kernel_rfl) (Or.inl ⟨by rfl, ?_⟩) hHeld ?_
        rotate_left
        · intro w hSw; go_simp; with_reducible rfl
        simp only [Act.put, List.setIfInBounds_toArray, List.set_cons_zero, List.set_cons_succ]
        refine take_at 15 109 (v := ?_) rfl rfl (by kernel_rfl) (by kernel_rfl) (by kernel_rfl) (Or.inl ⟨by rfl, ?_⟩) hHeld ?_
        rotate_left
        · intro w hSw; go_simp; with_reducible rfl
        simp only [Act.put, List.setIfInBounds_toArray, List.set_cons_zero, List.set_cons_succ]
        refine take_at 16 110 (v := ?_) rfl rfl (by kernel_rfl) (by kernel_rfl) (by kernel_rfl) (Or.inl ⟨by rfl, ?_⟩) hHeld ?_
        rotate_left
        · intro w hSw; go_simp; with_reducible rfl
        simp only [Act.put, List.setIfInBounds_toArray, List.set_cons_zero, List.set_cons_succ]
        refine take_at 17 111 (v := ?_) rfl rfl (by kernel_rfl) (by kernel_rfl) (by kernel_rfl) (Or.inl ⟨by rfl, ?_⟩) hHeld ?_
        rotate_left
        · intro w hSw; go_simp; with_reducible rfl
        simp only [Act.put, List.setIfInBounds_toArray, List.set_cons_zero, List.set_cons_succ]
        refine take_at 18 112 (v := .pointer (some ⟨g16, k * 3, none⟩)) rfl rfl (by kernel_rfl) (by kernel_rfl) (by kernel_rfl) (Or.inl ⟨by rfl, ?_⟩) hHeld ?_
        · intro w hSw; first | (go_simp; done) | (go_simp; rfl)
        simp only [Act.put, List.setIfInBounds_toArray, List.set_cons_zero, List.set_cons_succ]
        refine take_at 19 113 (v := ?_) rfl rfl (by kernel_rfl) (by kernel_rfl) (by kernel_rfl) (Or.inl ⟨by rfl, ?_⟩) hHeld ?_
        rotate_left
        · intro w hSw; go_simp; with_reducible rfl
        simp only [Act.put, List.setIfInBounds_toArray, List.set_cons_zero, List.set_cons_succ]
        refine take_at 20 114 (v := ?_) rfl rfl (by kernel_rfl) (by kernel_rfl) (by kernel_rfl) (Or.inl ⟨by rfl, ?_⟩) hHeld ?_
        rotate_left
        · intro w hSw; obtain ⟨s1, s2, s3, s4⟩ := hSw; go_simp; with_reducible rfl
        simp only [Act.put, List.setIfInBounds_toArray, List.set_cons_zero, List.set_cons_succ]
        refine take_at 21 115 (v := ?_) rfl rfl (by kernel_rfl) (by kernel_rfl) (by kernel_rfl) (Or.inl ⟨by rfl, ?_⟩) hHeld ?_
        rotate_left
        · intro w hSw; go_simp; with_reducible rfl
        simp only [Act.put, List.setIfInBounds_toArray, List.set_cons_zero, List.set_cons_succ]
        refine take_at 22 116 (v := .pointer (some ⟨g19, k * 3, none⟩)) rfl rfl (by kernel_rfl) (by kernel_rfl) (by kernel_rfl) (Or.inl ⟨by rfl, ?_⟩) hHeld ?_
        · intro w hSw; first | (go_simp; done) | (go_simp; rfl)
        simp only [Act.put, List.setIfInBounds_toArray, List.set_cons_zero, List.set_cons_succ]
        refine take_at 23 117 (v := ?_) rfl rfl (by kernel_rfl) (by kernel_rfl) (by kernel_rfl) (Or.inl ⟨by rfl, ?_⟩) hHeld ?_
        rotate_left
        · intro w hSw; go_simp; with_reducible rfl
        simp only [Act.put, List.setIfInBounds_toArray, List.set_cons_zero, List.set_cons_succ]
        refine take_at 24 118 (v := ?_) rfl rfl (by kernel_rfl) (by kernel_rfl) (by kernel_rfl) (Or.inl ⟨by rfl, ?_⟩) hHeld ?_
        rotate_left
        · intro w hSw; obtain ⟨s1, s2, s3, s4⟩ := hSw; go_simp; with_reducible rfl
        simp only [Act.put, List.setIfInBounds_toArray, List.set_cons_zero, List.set_cons_succ]
        refine take_at 25 119 (v := ?_) rfl rfl (by kernel_rfl) (by kernel_rfl) (by kernel_rfl) (Or.inl ⟨by rfl, ?_⟩) hHeld ?_
        rotate_left
        · intro w hSw; go_simp; with_reducible rfl
        simp only [Act.put, List.setIfInBounds_toArray, List.set_cons_zero, List.set_cons_succ]
        refine take_at 26 120 (v := ?_) rfl rfl (by kernel_rfl) (by kernel_rfl) (by kernel_rfl) (Or.inl ⟨by rfl, ?_⟩) hHeld ?_
        rotate_left
        · intro w hSw; go_simp; with_reducible rfl
        simp only [Act.put, List.setIfInBounds_toArray, List.set_cons_zero, List.set_cons_succ]
        refine take_at 27 4 (v := ?_) rfl rfl (by kernel_rfl) (by kernel_rfl) (by kernel_rfl) (Or.inl ⟨by rfl, ?_⟩) hHeld ?_
        rotate_left
        · intro w hSw; go_simp; with_reducible rfl
        simp only [Act.put, List.setIfInBounds_toArray, List.set_cons_zero, List.set_cons_succ]
        refine wpAnyH_done (by kernel_rfl) ?_ _
        refine NoPanic.normal ?_
        clear hHeld
        go_wp2_with fail
        go_ret
        exact ⟨rfl, (unhide HK).below (Nat.le_refl _) (fun _ h => h.elim)⟩

set_option maxRecDepth 100000 in
theorem lifted (os : Os) (started : os.Started) (H : Type) (enc : TypeId × Value → H) :
    ReturnsInHanded {} Try.checked os 7 .any (Rows.objectsOnceSpec.pre6 enc Try.prog Try.f7 Rows.objectsOnceRow.domain false) (Rows.objectsOnceSpec.post enc Try.prog Try.f7 false true false false) := by
  refine law_frame (C := Try.checked) (ts := [3, 75]) (tb := 4) (by kernel_rfl) started (by kernel_rfl) Try.func7 Try.params7 (by kernel_rfl) Try.underlying4 (by kernel_rfl) (by kernel_rfl) rfl ?_
    (ChangeSpec.witness6 (enc := enc) (C := Try.checked) false ⟨#[], #[.int .i64 0, .slice none 0 0], []⟩ 8 (by kernel_rfl) (by kernel_rfl) (by kernel_rfl) (by kernel_rfl)) ?_
  · intro ds hd
    match ds, hd with
    | [d0, d1], _ => rfl
  · intro W base args ds p hval hA
    obtain ⟨v0, vs0, d0, ds0, p0, q0, hargs, rfl, rfl, h0, r0⟩ := trodAll_cons hA
    obtain ⟨v1, vs1, d1, ds1, p1, q1, rfl, rfl, rfl, h1, r1⟩ := trodAll_cons r0
    obtain ⟨rfl, rfl, rfl⟩ := trodAll_nil r1
    obtain rfl : args = #[v0, v1] := by cases args; simp_all
    obtain ⟨z, rfl, rfl, rfl, wz⟩ := open_int Try.underlying3 (hval 0 3 v0 rfl rfl) h0
    obtain ⟨a, zs, n, cap, rfl, hV⟩ := open_u64sO (hval 1 75 v1 rfl rfl) h1
    exact walk W z a zs n cap wz hV

theorem over : Rows.objectsOnceRow.holds Try.pinned (OpenSpec.ofChange Rows.objectsOnceSpec) :=
  OpenClaim.holds_of_wide 7 Try.f7 rfl rfl rfl rfl rfl rfl rfl ⟨rfl, rfl, rfl, rfl, rfl⟩ rfl rfl rfl rfl rfl (by kernel_rfl) Try.func7 (by kernel_rfl)
    (of_decide_eq_true (by kernel_rfl)) (by unfold Func.isWrapper; first | (rw [if_pos (by decide +kernel)]; kernel_rfl) | (rw [if_neg (by decide +kernel)]; exact ⟨rfl, rfl⟩))
    (fun os started H enc _ => lifted os started H enc)

end Go.Proofs.Ytjmgmbigbkllgaa.objectsOnce
namespace Go.Proofs.Ytjmgmbigbkllgaa
theorem objectsOnce_holds : Rows.ObjectsOnceSaid := objectsOnce.over
end Go.Proofs.Ytjmgmbigbkllgaa
