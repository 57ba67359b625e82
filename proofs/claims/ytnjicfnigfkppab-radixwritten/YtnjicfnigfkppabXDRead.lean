
/-
  radix's directory: what read returns; only the map of the names turns.
-/
import Derived.Test.YtnjicfnigfkppabXDLeaf
import Derived.Test.YtnjicfnigfkppabXShown
namespace Go.Proofs.Ytnjicfnigfkppab
open Go.ChangeShapes Go.WideShapes Go.ChangeAt Go.RowKit Go.Joins
set_option maxRecDepth 10000
set_option linter.unusedVariables false
set_option linter.unusedSimpArgs false

theorem results_three {fn : Func} {p q u : Tmp} {P : Program} {ty ty2 : TypeId} (h : fn.results = #[.cell p ty, .cell q ty2, .tmp u]) (tmps : Array Value) (w : World) (g g2 : Nat) (t t2 : TypeId) (cs ds : Array Value) (fr fr2 : Nat × Nat) (d d2 : TypeDesc) (v : Value)
    (hp : tmps.getD p undef = .pointer (some ⟨g, 0, none⟩)) (hq : tmps.getD q undef = .pointer (some ⟨g2, 0, none⟩)) (hv : tmps.getD u undef = v) (hg : w.heap[g]? = some (.cells cs t fr)) (hg2 : w.heap[g2]? = some (.cells ds t2 fr2))
    (hu : P.underlying ty = some d) (hd : (match d with | .struct _ | .array _ _ => true | _ => false) = true) (hi : (P.info? ty).map (·.size) = some cs.size)
    (hu2 : P.underlying ty2 = some d2) (hd2 : (match d2 with | .struct _ | .array _ _ => true | _ => false) = true) (hi2 : (P.info? ty2).map (·.size) = some ds.size) :
    (results fn tmps).run P w = .ok (.tuple #[.agg cs, .agg ds, v]) w := by
  have hp' : tmps[p]?.getD undef = .pointer (some ⟨g, 0, none⟩) := by simpa using hp
  have hq' : tmps[q]?.getD undef = .pointer (some ⟨g2, 0, none⟩) := by simpa using hq
  have hv' : tmps[u]?.getD undef = v := by simpa using hv
  simp only [results, h]
  simp [Sem.run_bind, Result.andThen, hp', hq', hv', asAddr, run_loadVar_row w g t ty cs fr d hg hu hd hi, run_loadVar_row w g2 t2 ty2 ds fr2 d2 hg2 hu2 hd2 hi2]
theorem zero7 : (#[.int .i64 0, .int .i64 0, .int .i64 0, .int .i64 0, .int .i64 0, .int .i64 0, .int .i64 0] : Array Value) = iv .i64 zs7 := rfl

def RdPost (w : World) (M : Nat) (t l : List Int) (ok : Bool) (e : Ending) (w' : World) : Prop := e = .returned (.tuple #[.agg (iv .i64 t), .agg (iv .i64 l), .bool ok]) ∧ Keeps (· = M) w w'
def rdT (A : Mm) (fr root : Int) : List Int := if loadB A fr root then tabA A root else zrow 49
def rdL (A : Mm) (fr root : Int) : List Int := if loadB A fr root then lsA A root else zs7
theorem wf_small (z : Int) (h0 : 0 ≤ z) (h1 : z < 1024) : (Lit.int .i64 z).wf = true := by
  simp [Lit.wf, IntKind.min, IntKind.max, IntKind.signed, IntKind.bits]; omega
theorem tabF_at (A : Mm) (root : Int) (k j : Nat) (hj : j < 7) : tabF A root (7 * k + j) = enAt (readX (leafA A root k)) j := by
  unfold tabF
  rw [show (7 * k + j) / 7 = k by omega, show (7 * k + j) % 7 = j by omega]
set_option maxHeartbeats 8000000 in
theorem dread_any {w : World} {F : Nat → Prop} {b c : Nat} {A : Mm} {cs : Nat → Cel} (h : Rep w F b A c cs) (hon : A.on = true) (hn : A.n ≤ 1024) (hlk : ∀ i, (A.l i).ok) (M : Nat) (hFM : ¬ F M) (hM : NamedM w M []) (fr root : Int) (hz : (Lit.int .i64 root).wf = true) :
    Calls Try.prog 17 #[.agg #[.pointer (some ⟨b, 0, none⟩), .int .i64 fr, .map (some M)], .int .i64 root] w (RdPost w M (rdT A fr root) (rdL A fr root) (loadB A fr root)) := by
  have hML := hM.lt
  obtain ⟨W1, hW1⟩ : ∃ W1, W1 = ((w.alloc (.cells #[.pointer (some ⟨b, 0, none⟩), .int .i64 fr, .map (some M)] 63)).alloc (.cells (iv .i64 (zrow 49)) 27)).alloc (.cells (iv .i64 zs7) 29) := ⟨_, rfl⟩
  have HK1 : Hid (Keeps (fun _ => False) w W1) := by rw [hW1]; exact (((Keeps.refl _ w).alloc _).alloc _).alloc _
  have R1 := hide (h.keeps (unhide HK1) (fun _ _ => id))
  have C1 := hide (dline_any (unhide R1) hon hn M hFM [] (hM.keeps (unhide HK1) id) fr root hz (by decide))
  have G1 : Hid (W1.heap[w.heap.size]? = some (.cells #[.pointer (some ⟨b, 0, none⟩), .int .i64 fr, .map (some M)] 63 (0, 0))) := by rw [hW1]; exact (heap3 w _ _ _).1
  have G2 : Hid (W1.heap[w.heap.size + 1]? = some (.cells (iv .i64 (zrow 49)) 27 (0, 0))) := by rw [hW1]; exact (heap3 w _ _ _).2.1
  have G3 : Hid (W1.heap[w.heap.size + 1 + 1]? = some (.cells (iv .i64 zs7) 29 (0, 0))) := by rw [hW1]; exact (heap3 w _ _ _).2.2
  have HW1 := hide hW1
  have s147z := s147_of (zrow 49) (zrow_len 49)
  have s7z := s7_of zs7 rfl
  have HFM := hide hFM
  have HFL := hide h.lt
  have n8 := iv_newx .u64 (lnV' A.n fr A [] root) 32 8 (lnV'_len _ _ _ _ _)
  have z8 : (iv .u64 (lnV' A.n fr A [] root)).size = 8 := by rw [iv_size, lnV'_len]
  have HNO : Hid (loadB A fr root = false → rdT A fr root = zrow 49 ∧ rdL A fr root = zs7 ∧ loadB A fr root = false) := fun e => ⟨by unfold rdT; rw [e]; rfl, by unfold rdL; rw [e]; rfl, e⟩
  have HLV : Hid (nmB A.n fr [] root = true → lnV' A.n fr A [] root = lineA A root.toNat) := fun e => by unfold lnV'; rw [e]; rfl
  have HN0 : Hid (okN A.n fr [root] = true ↔ nmB A.n fr [] root = true) := by
    have := okN_snoc A.n fr [] root
    rw [List.nil_append] at this
    show _ ↔ _
    rw [this]
    exact ⟨fun h => h.2, fun h => ⟨by rw [okN_iff]; simp, h⟩⟩
  clear h hM hW1 hFM
  have hzv := zval147
  have hzne := zrow_ne
  go_enter Try.func17, Try.ntmps17
  go_upto_region 1 with fail
  rw [zero7, ← unhide HW1]
  have d0 : W1.cell? ⟨w.heap.size, 0, none⟩ = some (.pointer (some ⟨b, 0, none⟩)) := by rw [cell_of_block (unhide G1)]; rfl
  have d1 : W1.cell? ⟨w.heap.size, 1, none⟩ = some (.int .i64 fr) := by rw [cell_of_block (unhide G1)]; rfl
  have d2 : W1.cell? ⟨w.heap.size, 2, none⟩ = some (.map (some M)) := by rw [cell_of_block (unhide G1)]; rfl
  clear HW1
  go_wp2_with fail
  refine (unhide C1).mono ?_
  rintro e w2 ⟨rfl, hk2, hn2⟩
  have hs1 := lt_of_heap (unhide G3)
  have hs2 := hk2.size
  have K1 := hide ((Below.heap_alloc w2 (.cells (iv .u64 (lnV' A.n fr A [] root)) 32) w.heap.size (by omega)).trans ((hk2.block _ (by omega) (by omega)).trans (unhide G1)))
  have KT := hide ((Below.heap_alloc w2 (.cells (iv .u64 (lnV' A.n fr A [] root)) 32) (w.heap.size + 1) (by omega)).trans ((hk2.block _ (by omega) (by omega)).trans (unhide G2)))
  have KL := hide ((Below.heap_alloc w2 (.cells (iv .u64 (lnV' A.n fr A [] root)) 32) (w.heap.size + 1 + 1) (by omega)).trans ((hk2.block _ (by omega) (by omega)).trans (unhide G3)))
  have K6 := hide (heap_new w2 (.cells (iv .u64 (lnV' A.n fr A [] root)) 32))
  have R2 := hide (((unhide R1).keeps hk2 (fun x hx e => unhide HFM (e ▸ hx))).alloc (.cells (iv .u64 (lnV' A.n fr A [] root)) 32))
  have HKR : Hid (Keeps (· = M) w (w2.alloc (.cells (iv .u64 (lnV' A.n fr A [] root)) 32))) := (((unhide HK1).mono fun k hk hf => hf.elim).trans' hk2).alloc _
  have HN2 := hide hn2
  clear hk2 hn2 C1 G1 G2 G3 R1 HK1 d0 d1 d2
  have HM2 : Hid (nmB A.n fr [] root = true → NamedM (w2.alloc (.cells (iv .u64 (lnV' A.n fr A [] root)) 32)) M [root]) := fun hb => (unhide HN2 hb).keeps (F := fun _ => False) ((Keeps.refl _ _).alloc _) id
  go_upto_region 2 with fail
  clear n8 z8 HN2
  generalize w2.alloc (.cells (iv .u64 (lnV' A.n fr A [] root)) 32) = W2 at *
  cases hb : nmB A.n fr [] root with
  | false =>
    have HV := hide (unhide HNO (bool_not fun hh => by have := (unhide HN0).1 ((loadB_iff A fr root).1 hh).1.1; rw [hb] at this; cases this))
    clear HNO HLV hb HN0 HM2
    have KT1 := hide ((setRow_other W2 (w.heap.size + 1) (w.heap.size + 1 + 1) (iv .i64 (zrow 49)) (by omega)).trans (unhide KL))
    have KT2 := hide ((setRow_other (W2.setRow (w.heap.size + 1) (iv .i64 (zrow 49))) (w.heap.size + 1 + 1) (w.heap.size + 1) (iv .i64 zs7) (by omega)).trans (setRow_heap _ _ _ (iv .i64 (zrow 49)) _ _ (unhide KT)))
    go_wp2_with (first | (refine wpList_build0 rfl 27 rfl _ build147 ?_) | (refine wpList_build0 rfl 29 rfl _ build7x ?_) | (with_reducible refine wpList_store_row (by with_unfolding_all rfl) 27 _ _ (by with_unfolding_all rfl) (w.heap.size + 1) (iv .i64 (zrow 49)) (by with_unfolding_all rfl) (by with_unfolding_all rfl) _ _ (unhide KT) s147z rfl (iv_one _ _) ?_) | (with_reducible refine wpList_store_row (by with_unfolding_all rfl) 29 _ _ (by with_unfolding_all rfl) (w.heap.size + 1 + 1) (iv .i64 zs7) (by with_unfolding_all rfl) (by with_unfolding_all rfl) _ _ (unhide KT1) s7z rfl (iv_one _ _) ?_))
    refine bodyPost_ret (v := .tuple #[.agg (iv .i64 (zrow 49)), .agg (iv .i64 zs7), .bool false]) (results_three Try.results17 _ _ (w.heap.size + 1) (w.heap.size + 1 + 1) 27 29 (iv .i64 (zrow 49)) (iv .i64 zs7) (0, 0) (0, 0) _ _ _ rfl rfl rfl (unhide KT2) (setRow_heap _ _ _ _ _ _ (unhide KT1)) Try.underlying27 rfl s147z Try.underlying29 rfl s7z) rfl ?_
    exact ⟨by rw [(unhide HV).1, (unhide HV).2.1, (unhide HV).2.2], Keeps.setRow (Keeps.setRow (unhide HKR) (Or.inr (by omega)) _) (Or.inr (by omega)) _⟩
  | true =>
    have HM2' := hide (unhide HM2 hb)
    have HOK : Hid (okN A.n fr [root] = true) := (unhide HN0).2 hb
    have hL := unhide HLV hb
    rw [hL] at K6
    rw [hL]
    have CR := hide (readRoot_any (lineA A root.toNat) (lineA_len _ _) (lineA_wf A _ (hlk _)))
    have s8 := s8_of (lineA A root.toNat) (lineA_len _ _)
    have e7 : (iv .i64 zs7).size = (iv .i64 (readTV (lineA A root.toNat))).size := by rw [iv_size, iv_size, readTV_len]; rfl
    have s7 := s7_of (readTV (lineA A root.toNat)) (readTV_len _)
    have HXV : Hid (isT (lineA A root.toNat) = true → readTV (lineA A root.toNat) = lsA A root) := fun e => by unfold readTV lsA; rw [if_pos e]
    have HB2 : Hid (isT (lineA A root.toNat) = false → loadB A fr root = false) := fun e => bool_not fun hh => by have := ((loadB_iff A fr root).1 hh).1.2; rw [e] at this; cases this
    have HBD : Hid (isT (lineA A root.toNat) = true → ∀ k, k < 7 → 0 ≤ (lsA A root).getD k 0 ∧ (lsA A root).getD k 0 < 1024) := fun e k hk => lsA_bd A root e k hk
    have HIF : Hid (isT (lineA A root.toNat) = true → (∀ k, k < 7 → isX (leafA A root k) = true) → okN A.n fr (nsTo A root 7) = true → loadB A fr root = true) := fun e1 e2 e3 => (loadB_iff A fr root).2 ⟨⟨unhide HOK, e1⟩, e2, e3⟩
    clear hL HLV hb hz HM2 HN0
    generalize lineA A root.toNat = L at *
    go_wp2_with (with_reducible refine wpList_load_row (by with_unfolding_all rfl) 32 _ (by with_unfolding_all rfl) w2.heap.size (by with_unfolding_all rfl) _ _ _ _ (unhide K6) Try.underlying32 (by with_unfolding_all rfl) s8 ?_)
    refine (unhide CR _).mono ?_
    rintro e w3 ⟨rfl, hb3⟩
    have hs3 := hb3.size
    have hr3 := lt_of_heap (unhide KL)
    have K1' := hide ((hb3.block _ (by omega)).trans (unhide K1))
    have KT' := hide ((hb3.block _ (by omega)).trans (unhide KT))
    have KL' := hide ((hb3.block _ (by omega)).trans (unhide KL))
    have hk3 : Keeps (fun _ => False) W2 w3 := Keeps.of_below hb3
    have R3 := hide ((unhide R2).keeps hk3 (fun _ _ => id))
    have HKR' : Hid (Keeps (· = M) w w3) := (unhide HKR).trans' (hk3.mono fun k hk hf => hf.elim)
    have HM3 := hide ((unhide HM2').keeps hk3 id)
    clear hb3 hk3 CR K1 KT KL K6 R2 HKR HM2'
    have K5 := hide ((setRow_other w3 (w.heap.size + 1 + 1) w.heap.size (iv .i64 (readTV L)) (by omega)).trans (unhide K1'))
    have KT := hide ((setRow_other w3 (w.heap.size + 1 + 1) (w.heap.size + 1) (iv .i64 (readTV L)) (by omega)).trans (unhide KT'))
    have KL := hide (setRow_heap w3 (w.heap.size + 1 + 1) _ (iv .i64 (readTV L)) _ _ (unhide KL'))
    have hk4 : Keeps (· = w.heap.size + 1 + 1) w3 (w3.setRow (w.heap.size + 1 + 1) (iv .i64 (readTV L))) := Keeps.setRow (F := (· = w.heap.size + 1 + 1)) (Keeps.refl _ _) (Or.inl rfl) _
    have HKR : Hid (Keeps (· = M) w (w3.setRow (w.heap.size + 1 + 1) (iv .i64 (readTV L)))) := Keeps.setRow (unhide HKR') (Or.inr (by omega)) _
    have HM4 := hide ((unhide HM3).keeps hk4 (by omega))
    have ZL : Hid ((iv .i64 (readTV L)).size = (iv .i64 zs7).size) := e7.symm
    have R4 := hide ((unhide R3).keeps hk4 (fun x hx e => by have := unhide HFL x hx; omega))
    clear hk4 HKR' HM3 R3 K1' KT'
    go_upto_region 5 with (with_reducible refine wpList_store_row (by with_unfolding_all rfl) 29 _ _ (by with_unfolding_all rfl) (w.heap.size + 1 + 1) (iv .i64 (readTV L)) (by with_unfolding_all rfl) (by with_unfolding_all rfl) _ _ (unhide KL') s7 e7 (iv_one _ _) ?_)
    clear KL'
    generalize w3.setRow (w.heap.size + 1 + 1) (iv .i64 (readTV L)) = w4 at *
    cases hi : isT L with
    | false =>
      have HV := hide (unhide HNO (unhide HB2 hi))
      clear HNO HB2 hi HXV HBD HIF
      have KT1 := hide ((setRow_other w4 (w.heap.size + 1) (w.heap.size + 1 + 1) (iv .i64 (zrow 49)) (by omega)).trans (unhide KL))
      have KT2 := hide ((setRow_other (w4.setRow (w.heap.size + 1) (iv .i64 (zrow 49))) (w.heap.size + 1 + 1) (w.heap.size + 1) (iv .i64 zs7) (by omega)).trans (setRow_heap _ _ _ (iv .i64 (zrow 49)) _ _ (unhide KT)))
      go_wp2_with (first | (refine wpList_build0 rfl 27 rfl _ build147 ?_) | (refine wpList_build0 rfl 29 rfl _ build7x ?_) | (with_reducible refine wpList_store_row (by with_unfolding_all rfl) 27 _ _ (by with_unfolding_all rfl) (w.heap.size + 1) (iv .i64 (zrow 49)) (by with_unfolding_all rfl) (by with_unfolding_all rfl) _ _ (unhide KT) s147z rfl (iv_one _ _) ?_) | (with_reducible refine wpList_store_row (by with_unfolding_all rfl) 29 _ _ (by with_unfolding_all rfl) (w.heap.size + 1 + 1) (iv .i64 zs7) (by with_unfolding_all rfl) (by with_unfolding_all rfl) _ _ (unhide KT1) s7z (unhide ZL) (iv_one _ _) ?_))
      refine bodyPost_ret (v := .tuple #[.agg (iv .i64 (zrow 49)), .agg (iv .i64 zs7), .bool false]) (results_three Try.results17 _ _ (w.heap.size + 1) (w.heap.size + 1 + 1) 27 29 (iv .i64 (zrow 49)) (iv .i64 zs7) (0, 0) (0, 0) _ _ _ rfl rfl rfl (unhide KT2) (setRow_heap _ _ _ _ _ _ (unhide KT1)) Try.underlying27 rfl s147z Try.underlying29 rfl s7z) rfl ?_
      exact ⟨by rw [(unhide HV).1, (unhide HV).2.1, (unhide HV).2.2], Keeps.setRow (Keeps.setRow (unhide HKR) (Or.inr (by omega)) _) (Or.inr (by omega)) _⟩
    | true =>
      have hXV := unhide HXV hi
      rw [hXV] at KL ZL s7
      have HBD' := hide (unhide HBD hi)
      have HIF' := hide (unhide HIF hi)
      have ZL7 := ZL
      clear HXV HBD HB2 HIF hi hXV ZL
      have HIX : Hid (∀ (W : World) (j : Nat), j < 7 → Sem.run Try.prog (Instr.index 29 (.agg (iv .i64 (lsA A root))) (.int .i64 (j : Int))) W = .ok (.int .i64 ((lsA A root).getD j 0)) W) := fun W j hj => run_index7 W _ .i64 j hj _ (iv_get _ _ _ (by rw [lsA_len]; exact hj))
      have HT0 : Hid (rowE 49 (upTo (tabF A root) (7 * 0)) = zrow 49) := upTo_zero 49 _
      go_wp2_with (with_reducible refine wpList_load_row (by with_unfolding_all rfl) 29 _ (by with_unfolding_all rfl) (w.heap.size + 1 + 1) (by with_unfolding_all rfl) _ _ _ _ (unhide KL) Try.underlying29 (by with_unfolding_all rfl) s7 ?_)
      go_loopw [34] (fun c0 wr => ∃ k : Nat, k ≤ 7 ∧ c0 = .int .i64 k ∧ Keeps (· = M) w wr ∧ wr.heap[w.heap.size]? = some (.cells #[.pointer (some ⟨b, 0, none⟩), .int .i64 fr, .map (some M)] 63 (0, 0)) ∧ wr.heap[w.heap.size + 1]? = some (.cells (iv .i64 (rowE 49 (upTo (tabF A root) (7 * k)))) 27 (0, 0)) ∧
        wr.heap[w.heap.size + 1 + 1]? = some (.cells (iv .i64 (lsA A root)) 29 (0, 0)) ∧ Rep wr F b A c cs ∧ NamedM wr M (nsTo A root k) ∧ okN A.n fr (nsTo A root k) = true ∧ ∀ i, i < k → isX (leafA A root i) = true) (fun c0 _ => 7 - (intOf c0).toNat)
      case atStart => exact ⟨0, by omega, rfl, unhide HKR, unhide K5, by rw [unhide HT0]; exact unhide KT, unhide KL, unhide R4, unhide HM4, unhide HOK, fun i hi => by omega⟩
      case round =>
        clear HKR K5 KT KL R4 HM4 HOK HT0
        obtain ⟨k, hk, rfl, hkr, g0, g1, g2, rr, nm, ok, hx⟩ := hrel
        have HKR := hide hkr
        have G0 := hide g0
        have G1 := hide g1
        have G2 := hide g2
        have RR := hide rr
        have NM := hide nm
        have OK := hide ok
        have HX := hide hx
        have hsr := lt_of_heap g2
        clear hkr g0 g1 g2 rr nm ok hx
        by_cases hlt : k < 7
        · have hix := fun W => unhide HIX W k hlt
          obtain ⟨zb0, zb1⟩ := unhide HBD' k hlt
          have hwz : (Lit.int .i64 ((lsA A root).getD k 0)).wf = true := wf_small _ zb0 zb1
          have hnl := nsTo_len A root k
          have CL := hide (dleaf_any (unhide RR) hon hn hlk M (unhide HFM) (nsTo A root k) (unhide NM) fr ((lsA A root).getD k 0) (unhide OK) hwz (by omega))
          have d0 : wr.cell? ⟨w.heap.size, 0, none⟩ = some (.pointer (some ⟨b, 0, none⟩)) := by rw [cell_of_block (unhide G0)]; rfl
          have d1 : wr.cell? ⟨w.heap.size, 1, none⟩ = some (.int .i64 fr) := by rw [cell_of_block (unhide G0)]; rfl
          have d2 : wr.cell? ⟨w.heap.size, 2, none⟩ = some (.map (some M)) := by rw [cell_of_block (unhide G0)]; rfl
          have n21 := iv_newx .i64 (lfV A.n fr A (nsTo A root k) ((lsA A root).getD k 0)) 43 21 (lfV_len _ _ _ _ _)
          have z21 : (iv .i64 (lfV A.n fr A (nsTo A root k) ((lsA A root).getD k 0))).size = 21 := by rw [iv_size, lfV_len]
          have HFA : Hid (lfB A.n fr A (nsTo A root k) ((lsA A root).getD k 0) = false → loadB A fr root = false) := fun e => bool_not fun hh => by
            obtain ⟨-, h1, h2⟩ := (loadB_iff A fr root).1 hh
            obtain ⟨r, hr⟩ := nsTo_seven A root (k + 1) (by omega)
            rw [hr] at h2
            have h3 := okN_prefix h2
            have h4 : okN A.n fr (nsTo A root k ++ [(lsA A root).getD k 0]) = true := okN_prefix h3
            have h5 := ((okN_snoc _ _ _ _).1 h4).2
            have h6 : lfB A.n fr A (nsTo A root k) ((lsA A root).getD k 0) = true := by
              unfold lfB
              rw [h5, show isX (lineA A ((lsA A root).getD k 0).toNat) = true from h1 k hlt]
              exact h3
            rw [e] at h6; cases h6
          have HTR : Hid (lfB A.n fr A (nsTo A root k) ((lsA A root).getD k 0) = true → lfV A.n fr A (nsTo A root k) ((lsA A root).getD k 0) = readX (leafA A root k) ∧ isX (leafA A root k) = true ∧ okN A.n fr (nsTo A root (k + 1)) = true) := fun e => by
            refine ⟨by unfold lfV; rw [if_pos e]; rfl, ?_⟩
            unfold lfB at e
            simp only [Bool.and_eq_true] at e
            exact ⟨e.2.1, e.2.2⟩
          have HNN : Hid (lfN A (nsTo A root k) ((lsA A root).getD k 0) = nsTo A root (k + 1)) := rfl
          generalize hzz : (lsA A root).getD k 0 = zz at *
          clear hzz hwz hnl
          go_wp2_with fail
          refine (unhide CL).mono ?_
          rintro e w5 ⟨rfl, hk5, hn5⟩
          have hs5 := hk5.size
          have hka : Keeps (· = M) wr (w5.alloc (.cells (iv .i64 (lfV A.n fr A (nsTo A root k) zz)) 43)) := hk5.alloc _
          have HKR2 := hide ((unhide HKR).trans' hka)
          have K0 := hide ((hka.block _ (by omega) (by omega)).trans (unhide G0))
          have KT := hide ((hka.block _ (by omega) (by omega)).trans (unhide G1))
          have KL := hide ((hka.block _ (by omega) (by omega)).trans (unhide G2))
          have R5 := hide ((unhide RR).keeps hka (fun x hx e => unhide HFM (e ▸ hx)))
          have N5 : Hid (lfB A.n fr A (nsTo A root k) zz = true → NamedM (w5.alloc (.cells (iv .i64 (lfV A.n fr A (nsTo A root k) zz)) 43)) M (nsTo A root (k + 1))) := fun hb => by
            rw [← unhide HNN]; exact (hn5 hb).keeps (F := fun _ => False) ((Keeps.refl _ _).alloc _) id
          have KX := hide (heap_new w5 (.cells (iv .i64 (lfV A.n fr A (nsTo A root k) zz)) 43))
          clear hka hk5 hn5 CL d0 d1 d2 HKR G0 G1 G2 RR NM
          go_upto_region 11 with fail
          clear n21 z21
          generalize w5.alloc (.cells (iv .i64 (lfV A.n fr A (nsTo A root k) zz)) 43) = WA at *
          have HKR := HKR2
          have ZT49 : Hid ((iv .i64 (rowE 49 (upTo (tabF A root) (7 * k)))).size = (iv .i64 (zrow 49)).size) := by show _ = _; rw [iv_size, iv_size, rowE_len, zrow_len]
          cases hq : lfB A.n fr A (nsTo A root k) zz with
          | false =>
            have HV := hide (unhide HNO (unhide HFA hq))
            clear HNO hq HFA HTR N5
            have KT1 := hide ((setRow_other WA (w.heap.size + 1) (w.heap.size + 1 + 1) (iv .i64 (zrow 49)) (by omega)).trans (unhide KL))
            have KT2 := hide ((setRow_other (WA.setRow (w.heap.size + 1) (iv .i64 (zrow 49))) (w.heap.size + 1 + 1) (w.heap.size + 1) (iv .i64 zs7) (by omega)).trans (setRow_heap _ _ _ (iv .i64 (zrow 49)) _ _ (unhide KT)))
            go_wp2_with (first | (refine wpList_build0 rfl 27 rfl _ build147 ?_) | (refine wpList_build0 rfl 29 rfl _ build7x ?_) | (with_reducible refine wpList_store_row (by with_unfolding_all rfl) 27 _ _ (by with_unfolding_all rfl) (w.heap.size + 1) (iv .i64 (zrow 49)) (by with_unfolding_all rfl) (by with_unfolding_all rfl) _ _ (unhide KT) s147z (unhide ZT49) (iv_one _ _) ?_) | (with_reducible refine wpList_store_row (by with_unfolding_all rfl) 29 _ _ (by with_unfolding_all rfl) (w.heap.size + 1 + 1) (iv .i64 zs7) (by with_unfolding_all rfl) (by with_unfolding_all rfl) _ _ (unhide KT1) s7z (unhide ZL7) (iv_one _ _) ?_))
            refine bodyPost_ret (v := .tuple #[.agg (iv .i64 (zrow 49)), .agg (iv .i64 zs7), .bool false]) (results_three Try.results17 _ _ (w.heap.size + 1) (w.heap.size + 1 + 1) 27 29 (iv .i64 (zrow 49)) (iv .i64 zs7) (0, 0) (0, 0) _ _ _ rfl rfl rfl (unhide KT2) (setRow_heap _ _ _ _ _ _ (unhide KT1)) Try.underlying27 rfl s147z Try.underlying29 rfl s7z) rfl ?_
            exact ⟨by rw [(unhide HV).1, (unhide HV).2.1, (unhide HV).2.2], Keeps.setRow (Keeps.setRow (unhide HKR) (Or.inr (by omega)) _) (Or.inr (by omega)) _⟩
          | true =>
            obtain ⟨t1, t2, t3⟩ := unhide HTR hq
            have NN := hide (unhide N5 hq)
            have OO := hide t3
            have HX2 : Hid (∀ i, i < k + 1 → isX (leafA A root i) = true) := fun i hi => by
              by_cases e : i = k
              · subst e; exact t2
              · exact unhide HX i (by omega)
            rw [t1] at KX
            rw [t1]
            have s21 := s21_of (readX (leafA A root k)) (readX_len _)
            have HIE : Hid (∀ (W : World) (j : Nat), j < 7 → Sem.run Try.prog (Instr.index 43 (.agg (iv .i64 (readX (leafA A root k)))) (.int .i64 (j : Int))) W = .ok (.agg (ev (tabF A root (7 * k + j)))) W) := fun W j hj => by
              rw [tabF_at A root k j hj]; exact run_index_en _ 7 Try.underlying43 W _ (readX_len _) .i64 j hj
            clear hq HFA HTR N5 t1 t2 t3 HX OK HNO ZT49 HKR2
            generalize readX (leafA A root k) = X at *
            go_wp2_with (with_reducible refine wpList_load_row (by with_unfolding_all rfl) 43 _ (by with_unfolding_all rfl) w5.heap.size (by with_unfolding_all rfl) _ _ _ _ (unhide KX) Try.underlying43 (by with_unfolding_all rfl) s21 ?_)
            go_loopw [49] (fun c1 wi => ∃ j : Nat, j ≤ 7 ∧ c1 = .int .i64 j ∧ Keeps (· = M) w wi ∧ wi.heap[w.heap.size]? = some (.cells #[.pointer (some ⟨b, 0, none⟩), .int .i64 fr, .map (some M)] 63 (0, 0)) ∧ wi.heap[w.heap.size + 1]? = some (.cells (iv .i64 (rowE 49 (upTo (tabF A root) (7 * k + j)))) 27 (0, 0)) ∧
              wi.heap[w.heap.size + 1 + 1]? = some (.cells (iv .i64 (lsA A root)) 29 (0, 0)) ∧ Rep wi F b A c cs ∧ NamedM wi M (nsTo A root (k + 1))) (fun c1 _ => 7 - (intOf c1).toNat)
            case atStart => exact ⟨0, by omega, rfl, unhide HKR, unhide K0, unhide KT, unhide KL, unhide R5, unhide NN⟩
            case round =>
              clear HKR K0 KT KL R5 NN KX s21
              obtain ⟨j, hj, rfl, hkr, g0, g1, g2, rr, nm⟩ := hrel
              have hsr2 := lt_of_heap g2
              by_cases hlj : j < 7
              · have hie := fun W => unhide HIE W j hlj
                obtain ⟨q, hq⟩ : ∃ q : Nat, q = 7 * k + j := ⟨_, rfl⟩
                have n3 := ev_new (tabF A root (7 * k + j)) 25
                have z3 := ev_size (tabF A root (7 * k + j))
                have hka : Keeps (fun _ => False) wr (wr.alloc (.cells (ev (tabF A root (7 * k + j))) 25)) := (Keeps.refl _ _).alloc _
                have HKA : Hid (Keeps (· = M) w (wr.alloc (.cells (ev (tabF A root (7 * k + j))) 25))) := hkr.alloc _
                have K0 := hide ((hka.block _ (by omega) id).trans g0)
                have KT := hide ((hka.block _ (by omega) id).trans g1)
                have KL := hide ((hka.block _ (by omega) id).trans g2)
                have RA := hide (rr.keeps hka (fun _ _ => id))
                have NA := hide (nm.keeps hka id)
                have RX : Hid ((wr.alloc (.cells (ev (tabF A root (7 * k + j))) 25)).rangeAt wr.heap.size 0 (ev (tabF A root (7 * k + j))).toList) := fun m v hv => by
                  rw [cell_of_block (heap_new wr _), Nat.zero_add, ← Array.getElem?_toList]; exact hv
                have TT := hide (there_en _ (unhide KT) (7 * k + j) (by rw [rowE_len]; omega))
                have Hset : Hid (put3 (rowE 49 (upTo (tabF A root) (7 * k + j))) (7 * k + j) (tabF A root (7 * k + j)) = rowE 49 (upTo (tabF A root) (7 * k + j + 1))) := put3_upTo 49 _ (7 * k + j) (by omega)
                clear hka hkr g0 g1 g2 rr nm
                go_upto_region 16 with fail
                clear n3 z3 hie
                generalize wr.alloc (.cells (ev (tabF A root (7 * k + j))) 25) = WI at *
                go_wp2_with (first | (with_reducible refine wpList_load_en (by with_unfolding_all rfl) _ (by with_unfolding_all rfl) wr.heap.size 0 (by with_unfolding_all rfl) (tabF A root (7 * k + j)) (unhide RX) ?_) | (with_reducible refine wpList_store_en (by with_unfolding_all rfl) _ _ (by with_unfolding_all rfl) (w.heap.size + 1) ((7 * k + j) * 3) (tabF A root (7 * k + j)) (by with_unfolding_all rfl) (by with_unfolding_all rfl) (unhide TT) ?_))
                go_roundw
                case rel =>
                  have hks : Keeps (· = w.heap.size + 1) WI (WI.setCells (w.heap.size + 1) ((7 * k + j) * 3) (ev (tabF A root (7 * k + j))).toList) := Keeps.setCells (F := (· = w.heap.size + 1)) (Or.inl rfl) _ _ _ (Keeps.refl _ _)
                  refine ⟨j + 1, by omega, by go_num, Keeps.setCells (Or.inr (by omega)) _ _ _ (unhide HKA), ?_, ?_, ?_, (unhide RA).keeps hks (fun x hx e => by have := unhide HFL x hx; omega), (unhide NA).keeps hks (by omega)⟩
                  · rw [heap_put3 (by omega)]; exact unhide K0
                  · rw [block_put3 _ (unhide KT), unhide Hset, Nat.add_assoc]
                  · rw [heap_put3 (by omega)]; exact unhide KL
                case measure => simp [intOf]; omega
              · obtain rfl : j = 7 := by omega
                have HKR := hide hkr
                have G0 := hide g0
                have G1 := hide g1
                have G2 := hide g2
                have RR := hide rr
                have NM := hide nm
                clear hkr g0 g1 g2 rr nm HIE
                go_wp2_with fail
                go_roundw
                case rel => exact ⟨k + 1, by omega, by go_num, unhide HKR, unhide G0, by rw [show 7 * (k + 1) = 7 * k + 7 by omega]; exact unhide G1, unhide G2, unhide RR, unhide NM, unhide OO, unhide HX2⟩
                case measure => simp [intOf]; omega
        · obtain rfl : k = 7 := by omega
          have hlb := unhide HIF' (unhide HX) (unhide OK)
          have HV : Hid (rdT A fr root = tabA A root ∧ rdL A fr root = lsA A root ∧ loadB A fr root = true) := ⟨by unfold rdT; rw [if_pos hlb], by unfold rdL; rw [if_pos hlb], hlb⟩
          have hta : rowE 49 (upTo (tabF A root) (7 * 7)) = tabA A root := upTo_all 49 _
          rw [hta] at G1
          have s147 : (Try.prog.info? 27).map (·.size) = some (iv .i64 (tabA A root)).toList.length := by rw [Array.length_toList]; exact s147_of _ (tabA_len _ _)
          have s7b : (Try.prog.info? 29).map (·.size) = some (iv .i64 (lsA A root)).toList.length := by rw [Array.length_toList]; exact s7
          have s147' := s147_of (tabA A root) (tabA_len _ _)
          have RT : Hid (∀ w' : World, (Keeps (· = M) w w' ∧ w'.heap[w.heap.size + 1]? = some (.cells (iv .i64 (tabA A root)) 27 (0, 0)) ∧ w'.heap[w.heap.size + 1 + 1]? = some (.cells (iv .i64 (lsA A root)) 29 (0, 0))) → w'.rangeAt (w.heap.size + 1) 0 (iv .i64 (tabA A root)).toList) := fun w' hS m u hu => by
            rw [cell_of_block hS.2.1, Nat.zero_add, ← Array.getElem?_toList]; exact hu
          have RL : Hid (∀ w' : World, (Keeps (· = M) w w' ∧ w'.heap[w.heap.size + 1]? = some (.cells (iv .i64 (tabA A root)) 27 (0, 0)) ∧ w'.heap[w.heap.size + 1 + 1]? = some (.cells (iv .i64 (lsA A root)) 29 (0, 0))) → w'.rangeAt (w.heap.size + 1 + 1) 0 (iv .i64 (lsA A root)).toList) := fun w' hS m u hu => by
            rw [cell_of_block hS.2.2, Nat.zero_add, ← Array.getElem?_toList]; exact hu
          clear hta hlb HNO HIF' HX OK NM RR G0 HIX
          go_wp2_with fail
          refine wp_region_noPanic ?_
          refine wp_region_held_drew (S := fun w' => Keeps (· = M) w w' ∧ w'.heap[w.heap.size + 1]? = some (.cells (iv .i64 (tabA A root)) 27 (0, 0)) ∧ w'.heap[w.heap.size + 1 + 1]? = some (.cells (iv .i64 (lsA A root)) 29 (0, 0))) (by kernel_rfl) ⟨(unhide HKR).drew, unhide G1, unhide G2⟩ (fun hHeld => ?_)
          clear HKR G1 G2
          refine take_at 0 61 rfl rfl (by kernel_rfl) (by kernel_rfl) (by kernel_rfl) (yieldsIf_load_mid (by rfl) 27 _ rfl (w.heap.size + 1) 0 rfl (iv .i64 (tabA A root)).toList _ (fun w' h => unhide RT w' h) Try.underlying27 rfl s147) hHeld ?_
          simp only [Act.put, List.setIfInBounds_toArray, List.set_cons_zero, List.set_cons_succ]
          refine take_at 1 62 rfl rfl (by kernel_rfl) (by kernel_rfl) (by kernel_rfl) (yieldsIf_load_mid (by rfl) 29 _ rfl (w.heap.size + 1 + 1) 0 rfl (iv .i64 (lsA A root)).toList _ (fun w' h => unhide RL w' h) Try.underlying29 rfl s7b) hHeld ?_
          simp only [Act.put, List.setIfInBounds_toArray, List.set_cons_zero, List.set_cons_succ]
          refine wpAnyH_ready (rs := [2]) (by kernel_rfl) (by simp) ?_
          refine AllReadyH.cons rfl (fun K hK => ?_) AllReadyH.nil
          refine (if_pos (by rfl)).mpr ?_
          refine wp_store_row 27 (.tmp 4) (.tmp 61) rfl (w.heap.size + 1) (iv .i64 (tabA A root)) rfl rfl _ _ hHeld.2.1 s147' rfl (iv_one _ _) ?_
          refine hK.out _ _ ⟨Keeps.setRow hHeld.1 (Or.inr (by omega)) _, setRow_heap _ _ _ _ _ _ hHeld.2.1, (setRow_other _ _ _ _ (by omega)).trans hHeld.2.2⟩ (fun hNew => ?_)
          clear hK K hHeld
          refine wpAnyH_ready (rs := [3]) (by kernel_rfl) (by simp) ?_
          refine AllReadyH.cons rfl (fun K hK => ?_) AllReadyH.nil
          refine (if_pos (by rfl)).mpr ?_
          refine wp_store_row 29 (.tmp 5) (.tmp 62) rfl (w.heap.size + 1 + 1) (iv .i64 (lsA A root)) rfl rfl _ _ hNew.2.2 s7 rfl (iv_one _ _) ?_
          refine hK.out _ _ ⟨Keeps.setRow hNew.1 (Or.inr (by omega)) _, (setRow_other _ _ _ _ (by omega)).trans hNew.2.1, setRow_heap _ _ _ _ _ _ hNew.2.2⟩ (fun hHeld => ?_)
          clear hK K hNew
          refine take_at 4 6 (v := ?_) rfl rfl (by kernel_rfl) (by kernel_rfl) (by kernel_rfl) (Or.inl ⟨by rfl, ?_⟩) hHeld ?_
          rotate_left
          · intro w hSw; go_simp; with_reducible rfl
          simp only [Act.put, List.setIfInBounds_toArray, List.set_cons_zero, List.set_cons_succ]
          refine wpAnyH_done (by kernel_rfl) ?_ _
          refine NoPanic.normal ?_
          have HH := hide hHeld
          clear hHeld
          go_wp2_with fail
          refine bodyPost_ret (v := .tuple #[.agg (iv .i64 (tabA A root)), .agg (iv .i64 (lsA A root)), .bool true]) (results_three Try.results17 _ _ (w.heap.size + 1) (w.heap.size + 1 + 1) 27 29 (iv .i64 (tabA A root)) (iv .i64 (lsA A root)) (0, 0) (0, 0) _ _ _ rfl rfl rfl (unhide HH).2.1 (unhide HH).2.2 Try.underlying27 rfl s147' Try.underlying29 rfl s7) rfl ?_
          exact ⟨by rw [(unhide HV).1, (unhide HV).2.1, (unhide HV).2.2], (unhide HH).1⟩

end Go.Proofs.Ytnjicfnigfkppab
