/-
  For every line, CrcSeals returns true and leaves its argument as it was: a line is sealed, and told to be good or not, as the document says; what is sealed is good, its other words as they were. No condition.
-/
import Derived.Test.YtkhhgnainlnofaaCShown
import Derived.Test.YtkhhgnainlnofaaLaw
import Derived.Test.YtkhhgnainlnofaaFlat
import Derived.Deep.RegionHeld3
import Derived.Deep.MidRow
import Derived.Deep.QuietTactic
import Derived.BigQuiet
namespace Go.Proofs.Ytkhhgnainlnofaa.crcSeals
open Go.ChangeShapes Go.WideShapes Go.ChangeAt Go.RowKit Go.Joins
set_option linter.unusedVariables false

set_option maxHeartbeats 4000000 in
set_option maxRecDepth 100000 in
theorem walk (zs : List Int) (hzs : zs.length = 8 ∧ ∀ z ∈ zs, (Lit.int .u64 z).wf = true) (W : World) :
    Calls Try.prog 5 #[.agg (iv .u64 zs)] W fun e W' => e = .returned (.bool true) ∧ Below W.heap.size W W' := by
  obtain ⟨hl, hw⟩ := hzs
  obtain ⟨ds, hds⟩ : ∃ ds : List Value, ds = zs.map (fun z => Value.int .u64 z) := ⟨_, rfl⟩
  have hdl : ds.length = 8 := by rw [hds]; simpa using hl
  have hdi : iv .u64 zs = ds.toArray := by rw [hds]; rfl
  obtain ⟨es, hes⟩ : ∃ es : List Value, es = (sealOf zs).map (fun z => Value.int .u64 z) := ⟨_, rfl⟩
  have hel : es.length = 8 := by rw [hes]; simpa [sealOf_len] using hl
  have hei : iv .u64 (sealOf zs) = es.toArray := by rw [hes]; rfl
  have hj : (Try.prog.info? 32).map (·.size) = some ds.length := by rw [hdl]; exact size8
  have hk : (Try.prog.info? 32).map (·.size) = some es.length := by rw [hel]; exact size8
  have hsw := sealOf_wf zs hw
  have hsl : (sealOf zs).length = 8 := by rw [sealOf_len, hl]
  have C1 : Hid (∀ w : World, Calls Try.prog 15 #[.agg ds.toArray] w fun e w' => e = .returned (.agg es.toArray) ∧ Below w.heap.size w w') := fun w => by rw [← hdi, ← hei]; exact seal_any zs hl hw w
  have C2 : Hid (∀ w : World, Calls Try.prog 16 #[.agg ds.toArray] w fun e w' => e = .returned (.agg es.toArray) ∧ Below w.heap.size w w') := fun w => by rw [← hdi, ← hei]; exact rseal_any zs hl hw w
  have C3 : Hid (∀ w : World, Calls Try.prog 17 #[.agg ds.toArray] w fun e w' => e = .returned (.bool (goodB zs)) ∧ Below w.heap.size w w') := fun w => by rw [← hdi]; exact good_any zs hl hw w
  have C4 : Hid (∀ w : World, Calls Try.prog 18 #[.agg ds.toArray] w fun e w' => e = .returned (.bool (goodB zs)) ∧ Below w.heap.size w w') := fun w => by rw [← hdi]; exact rgood_any zs hl hw w
  have C5 : Hid (∀ w : World, Calls Try.prog 17 #[.agg es.toArray] w fun e w' => e = .returned (.bool true) ∧ Below w.heap.size w w') := fun w => by rw [← hei, ← good_of_seal zs hl]; exact good_any (sealOf zs) hsl hsw w
  have C6 : Hid (∀ w : World, Calls Try.prog 15 #[.agg es.toArray] w fun e w' => e = .returned (.agg es.toArray) ∧ Below w.heap.size w w') := fun w => by
    have := seal_any (sealOf zs) hsl hsw w
    rw [seal_twice, hei] at this; exact this
  have hm2 : Try.prog.eqGuardType Try.prog.depth 32 = false := by kernel_rfl
  have Q1 : Hid (∀ w : World, (Op.equalIn 10000 32 (.agg es.toArray) (.agg es.toArray)).run Try.prog w = .ok true w) := fun w => by
    rw [← hei, run_equalIn_ints w 9998 32 30 .u64 8 Try.underlying32 Try.underlying30 (by kernel_rfl) _ _ hsl hsl]; simp
  have GA : Hid (∀ i, i < 8 → ds[i]? = some (.int .u64 (zs.getD i 0))) := fun i hi => by
    rw [hds, List.getElem?_map, List.getD_eq_getElem?_getD, List.getElem?_eq_getElem (by omega)]; rfl
  have GB : Hid (∀ i, i < 7 → es[i]? = some (.int .u64 (zs.getD i 0))) := fun i hi => by
    rw [hes, List.getElem?_map, ← seal_other zs i hi, List.getD_eq_getElem?_getD, List.getElem?_eq_getElem (by omega)]; rfl
  have H1 : es.toArray.all (·.oneCell') = true := by rw [← hei]; exact iv_one _ _
  rw [hdi]
  clear hds hdi hes hei hsw hw
  have G0 : Hid ((W.alloc (.cells ds.toArray 32)).heap[W.heap.size]? = some (.cells ds.toArray 32 (0, 0))) := heap_new _ _
  go_enter Try.func5, Try.ntmps5
  go_wp2_with fail
  refine (shown_any _).mono ?_
  rintro e w1 ⟨rfl, hb1⟩
  have K0 := hide ((hb1.block W.heap.size (by simp)).trans (unhide G0))
  have Hb1 := hide (((Below.refl W.heap.size W).alloc (Nat.le_refl _) (.cells ds.toArray 32)).trans (hb1.mono (by simp)))
  have hs1 : W.heap.size < w1.heap.size := by have := hb1.size; simp at this; omega
  clear hb1 G0
  go_wp2_with (refine wpList_load_row rfl 32 _ rfl _ rfl _ _ _ _ (unhide K0) Try.underlying32 rfl (by rw [List.size_toArray]; exact hj) ?_)
  refine (unhide C1 _).mono ?_
  rintro e w2 ⟨rfl, hb2⟩
  have K1 := hide ((hb2.block W.heap.size hs1).trans (unhide K0))
  have Hb2 := hide ((unhide Hb1).trans (hb2.mono (by omega)))
  have hs2 : W.heap.size < w2.heap.size := by have := hb2.size; omega
  clear hb2 K0 Hb1
  have hst : ∀ (V : World) (C : Array Value), C.size = 8 → Sem.run Try.prog (storeCells ⟨V.heap.size, 0, none⟩ es) (V.alloc (.cells C 32)) = .ok () (V.alloc (.cells es.toArray 32)) :=
    fun V C hC => run_store_new V _ rfl C es.toArray _ (by rw [hC, List.size_toArray, hel]) H1
  go_wp2_with fail
  have KA := hide ((Below.heap_alloc w2 (.cells es.toArray 32) W.heap.size (by omega)).trans (unhide K1))
  have KB := hide (heap_new w2 (.cells es.toArray 32))
  have Hb3 := hide ((unhide Hb2).alloc (by omega) (.cells es.toArray 32))
  have hs3 : (w2.alloc (.cells es.toArray 32)).heap.size = w2.heap.size + 1 := by simp
  obtain ⟨G, hG⟩ : ∃ G, G = w2.heap.size := ⟨_, rfl⟩
  rw [← hG] at hs2 hs3
  have HG := hide hG
  rw [← unhide HG] at KB
  rw [← unhide HG]
  have HS3 := hide hs3
  clear hst K1 Hb2 hG hs3 hs1
  generalize w2.alloc (.cells es.toArray 32) = V at *
  clear HG
  clear w2
  clear w1
  go_loopw [5] (fun c wr => ∃ k q : Nat, k ≤ 7 ∧ c = .int .i64 k ∧ wr = V.drewN q) (fun c _ => 7 - (intOf c).toNat)
  case atStart => exact ⟨0, 0, by omega, rfl, rfl⟩
  case round =>
    obtain ⟨k, q, hk7, rfl, rfl⟩ := hrel
    by_cases hlt : k < 7
    · have ca : V.cell? ⟨W.heap.size, k, none⟩ = some (.int .u64 (zs.getD k 0)) := by rw [cell_of_block (unhide KA)]; simpa using unhide GA k (by omega)
      have cb : V.cell? ⟨G, k, none⟩ = some (.int .u64 (zs.getD k 0)) := by rw [cell_of_block (unhide KB)]; simpa using unhide GB k hlt
      generalize zs.getD k 0 = z at *
      go_wp2_with fail
      go_quiet (fail)
      go_wp2_with fail
      go_roundw
      case rel => exact ⟨k + 1, q + nq, by omega, by go_num, rfl⟩
      case measure => simp [intOf]; omega
    · have HS0 : Hid ((fun w' : World => Below (G + 1) V w' ∧ w'.rangeAt W.heap.size 0 ds ∧ w'.rangeAt G 0 es) (V.drewN q).drew) := by
        refine ⟨⟨rfl, rfl, rfl, Nat.le_refl _, fun _ _ => rfl⟩, ?_, ?_⟩
        · intro j v hv
          show V.cell? _ = _
          rw [cell_of_block (unhide KA), Nat.zero_add]; simpa using hv
        · intro j v hv
          show V.cell? _ = _
          rw [cell_of_block (unhide KB), Nat.zero_add]; simpa using hv
      have Hk : Hid (∀ w' w'' : World, (Below (G + 1) V w' ∧ w'.rangeAt W.heap.size 0 ds ∧ w'.rangeAt G 0 es) → Below w'.heap.size w' w'' → (fun w' : World => Below (G + 1) V w' ∧ w'.rangeAt W.heap.size 0 ds ∧ w'.rangeAt G 0 es) w'') := by
        rintro w' w'' ⟨h1, h2, h3⟩ hb
        have h4 := h1.size
        rw [unhide HS3] at h4
        exact ⟨h1.trans (hb.mono h4), range_below hb (by omega) h2, range_below hb (by omega) h3⟩
      go_wp2_with fail
      refine wp_region_noPanic ?_
      refine wp_region_held_drew (S := fun w' => Below (G + 1) V w' ∧ w'.rangeAt W.heap.size 0 ds ∧ w'.rangeAt G 0 es) (by kernel_rfl) (unhide HS0) (fun hHeld => ?_)
      refine take_at 0 20 (v := ?_) rfl rfl (by kernel_rfl) (by kernel_rfl) (by kernel_rfl) (Or.inl ⟨by rfl, ?_⟩) hHeld ?_
      rotate_left
      · intro w hSw; go_simp; with_reducible rfl
      simp only [Act.put, List.setIfInBounds_toArray, List.set_cons_zero, List.set_cons_succ]
      refine take_at 1 21 (v := ?_) rfl rfl (by kernel_rfl) (by kernel_rfl) (by kernel_rfl) (Or.inl ⟨by rfl, ?_⟩) hHeld ?_
      rotate_left
      · intro w hSw; go_simp; with_reducible rfl
      simp only [Act.put, List.setIfInBounds_toArray, List.set_cons_zero, List.set_cons_succ]
      refine take_at 2 22 rfl rfl (by kernel_rfl) (by kernel_rfl) (by kernel_rfl) (yieldsIf_load_mid (by rfl) 32 _ rfl G 0 rfl es _ (fun w h => h.2.2) Try.underlying32 rfl hk) hHeld ?_
      simp only [Act.put, List.setIfInBounds_toArray, List.set_cons_zero, List.set_cons_succ]
      refine take_at 3 23 rfl rfl (by kernel_rfl) (by kernel_rfl) (by kernel_rfl) (yieldsIf_load_mid (by rfl) 32 _ rfl W.heap.size 0 rfl ds _ (fun w h => h.2.1) Try.underlying32 rfl hj) hHeld ?_
      simp only [Act.put, List.setIfInBounds_toArray, List.set_cons_zero, List.set_cons_succ]
      refine wpAnyH_ready (rs := [4]) (by kernel_rfl) (by simp) ?_
      refine AllReadyH.cons rfl (fun K hK => ?_) AllReadyH.nil
      go_simp
      refine (unhide C2 _).mono ?_
      rintro e w' ⟨rfl, hbx⟩
      go_wp2_with fail
      refine hK.out _ _ (unhide Hk _ _ hHeld hbx) (fun hNew => ?_)
      clear hK K hHeld hbx
      have hHeld := hNew
      clear hNew
      refine take_at 5 25 rfl rfl (by kernel_rfl) (by kernel_rfl) (by kernel_rfl) (yieldsIf_eql (by rfl) 32 32 _ _ rfl es.toArray es.toArray rfl rfl hm2 true (unhide Q1)) hHeld ?_
      simp only [Act.put, List.setIfInBounds_toArray, List.set_cons_zero, List.set_cons_succ]
      refine take_at 6 26 (v := ?_) rfl rfl (by kernel_rfl) (by kernel_rfl) (by kernel_rfl) (Or.inl ⟨by rfl, ?_⟩) hHeld ?_
      rotate_left
      · intro w hSw; go_simp; with_reducible rfl
      simp only [Act.put, List.setIfInBounds_toArray, List.set_cons_zero, List.set_cons_succ]
      refine take_at 7 27 (v := ?_) rfl rfl (by kernel_rfl) (by kernel_rfl) (by kernel_rfl) (Or.inl ⟨by rfl, ?_⟩) hHeld ?_
      rotate_left
      · intro w hSw; go_simp; with_reducible rfl
      simp only [Act.put, List.setIfInBounds_toArray, List.set_cons_zero, List.set_cons_succ]
      refine take_at 8 28 rfl rfl (by kernel_rfl) (by kernel_rfl) (by kernel_rfl) (yieldsIf_load_mid (by rfl) 32 _ rfl W.heap.size 0 rfl ds _ (fun w h => h.2.1) Try.underlying32 rfl hj) hHeld ?_
      simp only [Act.put, List.setIfInBounds_toArray, List.set_cons_zero, List.set_cons_succ]
      refine take_at 10 30 rfl rfl (by kernel_rfl) (by kernel_rfl) (by kernel_rfl) (yieldsIf_load_mid (by rfl) 32 _ rfl W.heap.size 0 rfl ds _ (fun w h => h.2.1) Try.underlying32 rfl hj) hHeld ?_
      simp only [Act.put, List.setIfInBounds_toArray, List.set_cons_zero, List.set_cons_succ]
      refine wpAnyH_ready (rs := [9]) (by kernel_rfl) (by simp) ?_
      refine AllReadyH.cons rfl (fun K hK => ?_) AllReadyH.nil
      go_simp
      refine (unhide C3 _).mono ?_
      rintro e w' ⟨rfl, hbx⟩
      go_wp2_with fail
      refine hK.out _ _ (unhide Hk _ _ hHeld hbx) (fun hNew => ?_)
      clear hK K hHeld hbx
      have hHeld := hNew
      clear hNew
      refine wpAnyH_ready (rs := [11]) (by kernel_rfl) (by simp) ?_
      refine AllReadyH.cons rfl (fun K hK => ?_) AllReadyH.nil
      go_simp
      refine (unhide C4 _).mono ?_
      rintro e w' ⟨rfl, hbx⟩
      go_wp2_with fail
      refine hK.out _ _ (unhide Hk _ _ hHeld hbx) (fun hNew => ?_)
      clear hK K hHeld hbx
      have hHeld := hNew
      clear hNew
      refine take_at 12 32 (v := ?_) rfl rfl (by kernel_rfl) (by kernel_rfl) (by kernel_rfl) (Or.inl ⟨by rfl, ?_⟩) hHeld ?_
      rotate_left
      · intro w hSw; go_simp; with_reducible rfl
      simp only [Act.put, List.setIfInBounds_toArray, List.set_cons_zero, List.set_cons_succ]
      refine take_at 13 33 (v := ?_) rfl rfl (by kernel_rfl) (by kernel_rfl) (by kernel_rfl) (Or.inl ⟨by rfl, ?_⟩) hHeld ?_
      rotate_left
      · intro w hSw; go_simp; with_reducible rfl
      simp only [Act.put, List.setIfInBounds_toArray, List.set_cons_zero, List.set_cons_succ]
      refine take_at 14 34 (v := ?_) rfl rfl (by kernel_rfl) (by kernel_rfl) (by kernel_rfl) (Or.inl ⟨by rfl, ?_⟩) hHeld ?_
      rotate_left
      · intro w hSw; go_simp; with_reducible rfl
      simp only [Act.put, List.setIfInBounds_toArray, List.set_cons_zero, List.set_cons_succ]
      refine take_at 15 35 rfl rfl (by kernel_rfl) (by kernel_rfl) (by kernel_rfl) (yieldsIf_load_mid (by rfl) 32 _ rfl G 0 rfl es _ (fun w h => h.2.2) Try.underlying32 rfl hk) hHeld ?_
      simp only [Act.put, List.setIfInBounds_toArray, List.set_cons_zero, List.set_cons_succ]
      refine wpAnyH_ready (rs := [16]) (by kernel_rfl) (by simp) ?_
      refine AllReadyH.cons rfl (fun K hK => ?_) AllReadyH.nil
      go_simp
      refine (unhide C5 _).mono ?_
      rintro e w' ⟨rfl, hbx⟩
      go_wp2_with fail
      refine hK.out _ _ (unhide Hk _ _ hHeld hbx) (fun hNew => ?_)
      clear hK K hHeld hbx
      have hHeld := hNew
      clear hNew
      refine take_at 17 37 (v := ?_) rfl rfl (by kernel_rfl) (by kernel_rfl) (by kernel_rfl) (Or.inl ⟨by rfl, ?_⟩) hHeld ?_
      rotate_left
      · intro w hSw; go_simp; with_reducible rfl
      simp only [Act.put, List.setIfInBounds_toArray, List.set_cons_zero, List.set_cons_succ]
      refine take_at 18 38 (v := ?_) rfl rfl (by kernel_rfl) (by kernel_rfl) (by kernel_rfl) (Or.inl ⟨by rfl, ?_⟩) hHeld ?_
      rotate_left
      · intro w hSw; go_simp; with_reducible rfl
      simp only [Act.put, List.setIfInBounds_toArray, List.set_cons_zero, List.set_cons_succ]
      refine take_at 19 39 rfl rfl (by kernel_rfl) (by kernel_rfl) (by kernel_rfl) (yieldsIf_load_mid (by rfl) 32 _ rfl G 0 rfl es _ (fun w h => h.2.2) Try.underlying32 rfl hk) hHeld ?_
      simp only [Act.put, List.setIfInBounds_toArray, List.set_cons_zero, List.set_cons_succ]
      refine take_at 21 41 rfl rfl (by kernel_rfl) (by kernel_rfl) (by kernel_rfl) (yieldsIf_load_mid (by rfl) 32 _ rfl G 0 rfl es _ (fun w h => h.2.2) Try.underlying32 rfl hk) hHeld ?_
      simp only [Act.put, List.setIfInBounds_toArray, List.set_cons_zero, List.set_cons_succ]
      refine wpAnyH_ready (rs := [20]) (by kernel_rfl) (by simp) ?_
      refine AllReadyH.cons rfl (fun K hK => ?_) AllReadyH.nil
      go_simp
      refine (unhide C6 _).mono ?_
      rintro e w' ⟨rfl, hbx⟩
      go_wp2_with fail
      refine hK.out _ _ (unhide Hk _ _ hHeld hbx) (fun hNew => ?_)
      clear hK K hHeld hbx
      have hHeld := hNew
      clear hNew
      refine take_at 22 42 rfl rfl (by kernel_rfl) (by kernel_rfl) (by kernel_rfl) (yieldsIf_eql (by rfl) 32 32 _ _ rfl es.toArray es.toArray rfl rfl hm2 true (unhide Q1)) hHeld ?_
      simp only [Act.put, List.setIfInBounds_toArray, List.set_cons_zero, List.set_cons_succ]
      refine take_at 23 43 (v := ?_) rfl rfl (by kernel_rfl) (by kernel_rfl) (by kernel_rfl) (Or.inl ⟨by rfl, ?_⟩) hHeld ?_
      rotate_left
      · intro w hSw; go_simp; with_reducible rfl
      simp only [Act.put, List.setIfInBounds_toArray, List.set_cons_zero, List.set_cons_succ]
      refine take_at 24 2 (v := ?_) rfl rfl (by kernel_rfl) (by kernel_rfl) (by kernel_rfl) (Or.inl ⟨by rfl, ?_⟩) hHeld ?_
      rotate_left
      · intro w hSw; go_simp; with_reducible rfl
      simp only [Act.put, List.setIfInBounds_toArray, List.set_cons_zero, List.set_cons_succ]
      refine wpAnyH_done (by kernel_rfl) ?_ _
      refine NoPanic.normal ?_
      go_wp2_with fail
      go_ret
      exact ⟨rfl, (unhide Hb3).trans ((hHeld.1).mono (by omega))⟩

theorem open_ints8 {H : Type} {enc : TypeId × Value → H} {W : World} {r : Reach} {b0 base : Nat} {sp : Nat → Bool} {hd : Bool} {v : Value} {d : DataW H} {p : List MemPlace}
    (hv : Value.okWide Try.prog W r b0 32 v) (h : DataW.Trod enc Try.prog W base sp hd 32 v d p) :
    ∃ zs : List Int, v = .agg (iv .u64 zs) ∧ (zs.length = 8 ∧ ∀ z ∈ zs, (Lit.int .u64 z).wf = true) := by
  obtain ⟨cs, rfl, hfit⟩ := flat_open 3 (ks := List.replicate 8 (some .u64)) (by kernel_rfl) (Or.inr ⟨_, _, Try.underlying32⟩) hv h
  obtain ⟨zs, hl, hz, hw⟩ := allFit_ints .u64 8 cs.toList hfit
  exact ⟨zs, by rw [iv, ← hz], hl, hw⟩

set_option maxRecDepth 100000 in
theorem lifted (os : Os) (started : os.Started) (H : Type) (enc : TypeId × Value → H) :
    ReturnsInHanded {} Try.checked os 5 .any (Rows.crcSealsSpec.pre6 enc Try.prog Try.f5 Rows.crcSealsRow.domain false) (Rows.crcSealsSpec.post enc Try.prog Try.f5 false true false false) := by
  refine law_frame (C := Try.checked) (ts := [32]) (tb := 4) (by kernel_rfl) started (by kernel_rfl) Try.func5 Try.params5 (by kernel_rfl) Try.underlying4 (by kernel_rfl) (by kernel_rfl) rfl ?_
    (ChangeSpec.witness6 (enc := enc) (C := Try.checked) false ⟨#[], #[.agg (iv .u64 (List.replicate 8 0))], []⟩ 8 (by kernel_rfl) (by kernel_rfl) (by kernel_rfl) (by kernel_rfl)) ?_
  · intro ds hd
    match ds, hd with
    | [d0], _ => rfl
  · intro W base args ds p hval hA
    obtain ⟨v0, vs0, d0, ds0, p0, q0, hargs, rfl, rfl, h0, r0⟩ := trodAll_cons hA
    obtain ⟨rfl, rfl, rfl⟩ := trodAll_nil r0
    obtain rfl : args = #[v0] := by cases args; simp_all
    obtain ⟨zs, rfl, hzs⟩ := open_ints8 (hval 0 32 v0 rfl rfl) h0
    exact walk zs hzs W

theorem over : Rows.crcSealsRow.holds Try.pinned (OpenSpec.ofChange Rows.crcSealsSpec) :=
  OpenClaim.holds_of_wide 5 Try.f5 rfl rfl rfl rfl rfl rfl rfl ⟨rfl, rfl, rfl, rfl, rfl⟩ rfl rfl rfl rfl rfl (by kernel_rfl) Try.func5 (by kernel_rfl)
    (of_decide_eq_true (by kernel_rfl)) (by unfold Func.isWrapper; first | (rw [if_pos (by decide +kernel)]; kernel_rfl) | (rw [if_neg (by decide +kernel)]; exact ⟨rfl, rfl⟩))
    (fun os started H enc _ => lifted os started H enc)

end Go.Proofs.Ytkhhgnainlnofaa.crcSeals
namespace Go.Proofs.Ytkhhgnainlnofaa
theorem crcSeals_holds : Rows.CrcSealsSaid := crcSeals.over
end Go.Proofs.Ytkhhgnainlnofaa
