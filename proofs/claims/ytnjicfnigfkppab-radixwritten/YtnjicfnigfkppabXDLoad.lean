
/-
  radix.Load: what it returns, for whatever memory, line and root; nothing that was there turns.
-/
import Derived.Test.YtnjicfnigfkppabXDRead
namespace Go.Proofs.Ytnjicfnigfkppab
open Go.ChangeShapes Go.WideShapes Go.ChangeAt Go.RowKit Go.Joins
set_option maxRecDepth 10000
set_option linter.unusedVariables false
set_option linter.unusedSimpArgs false

theorem rdT_len (A : Mm) (fr root : Int) : (rdT A fr root).length = 147 := by unfold rdT; split; exact tabA_len _ _; exact zrow_len 49
theorem rdL_len (A : Mm) (fr root : Int) : (rdL A fr root).length = 7 := by unfold rdL; split; exact lsA_len _ _; rfl
def LdPost (w : World) (t l : List Int) (er : Int) (e : Ending) (w' : World) : Prop := e = .returned (.tuple #[.agg (iv .i64 t), .agg (iv .i64 l), .int .i64 er]) ∧ Keeps (fun _ => False) w w'
set_option maxHeartbeats 8000000 in
theorem xload_any {w : World} {F : Nat → Prop} {b c : Nat} {A : Mm} {cs : Nat → Cel} (h : Rep w F b A c cs) (hn : A.n ≤ 1024) (hlk : ∀ i, (A.l i).ok) (fr root : Int) (hz : (Lit.int .i64 root).wf = true) :
    Calls Try.prog 8 #[.pointer (some ⟨b, 0, none⟩), .int .i64 fr, .int .i64 root] w (LdPost w (ldT A fr root) (ldL A fr root) (ldE A fr root)) := by
  obtain ⟨W1, hW1⟩ : ∃ W1, W1 = (w.alloc (.cells (iv .i64 (zrow 49)) 27)).alloc (.cells (iv .i64 zs7) 29) := ⟨_, rfl⟩
  have HK1 : Hid (Keeps (fun _ => False) w W1) := by rw [hW1]; exact ((Keeps.refl _ w).alloc _).alloc _
  have R1 := hide (h.keeps (unhide HK1) (fun _ _ => id))
  have C1 := hide (on_any (unhide R1))
  have G1 : Hid (W1.heap[w.heap.size]? = some (.cells (iv .i64 (zrow 49)) 27 (0, 0))) := by rw [hW1]; exact (heap2 w _ _).1
  have G2 : Hid (W1.heap[w.heap.size + 1]? = some (.cells (iv .i64 zs7) 29 (0, 0))) := by rw [hW1]; exact (heap2 w _ _).2
  have HSZ : Hid (W1.heap.size = w.heap.size + 1 + 1) := by show _ = _; rw [hW1]; simp
  have HW1 := hide hW1
  have s147z := s147_of (zrow 49) (zrow_len 49)
  have s7z := s7_of zs7 rfl
  have HFL := hide h.lt
  clear h hW1
  have hzv := zval147
  have hzne := zrow_ne
  go_enter Try.func8, Try.ntmps8
  go_upto_region 1 with fail
  rw [zero7, ← unhide HW1]
  clear HW1
  go_wp2_with fail
  refine (unhide C1).mono ?_
  rintro e w1 ⟨rfl, rfl⟩
  clear C1
  cases hon : A.on with
  | false =>
    have HV : Hid (ldT A fr root = zrow 49 ∧ ldL A fr root = zs7 ∧ ldE A fr root = 4) := by show _ ∧ _; unfold ldT ldL ldE; rw [hon]; simp
    have HKR := HK1
    have KT := G1
    have KL := G2
    clear hon
    have KT1 := hide ((setRow_other w1 w.heap.size (w.heap.size + 1) (iv .i64 (zrow 49)) (by omega)).trans (unhide KL))
    have KT2 := hide ((setRow_other (w1.setRow w.heap.size (iv .i64 (zrow 49))) (w.heap.size + 1) w.heap.size (iv .i64 zs7) (by omega)).trans (setRow_heap _ _ _ (iv .i64 (zrow 49)) _ _ (unhide KT)))
    go_wp2_with (first | (refine wpList_build0 rfl 27 rfl _ build147 ?_) | (refine wpList_build0 rfl 29 rfl _ build7x ?_) | (with_reducible refine wpList_store_row (by with_unfolding_all rfl) 27 _ _ (by with_unfolding_all rfl) w.heap.size (iv .i64 (zrow 49)) (by with_unfolding_all rfl) (by with_unfolding_all rfl) _ _ (unhide KT) s147z rfl (iv_one _ _) ?_) | (with_reducible refine wpList_store_row (by with_unfolding_all rfl) 29 _ _ (by with_unfolding_all rfl) (w.heap.size + 1) (iv .i64 zs7) (by with_unfolding_all rfl) (by with_unfolding_all rfl) _ _ (unhide KT1) s7z rfl (iv_one _ _) ?_))
    refine bodyPost_ret (v := .tuple #[.agg (iv .i64 (zrow 49)), .agg (iv .i64 zs7), .int .i64 4]) (results_three Try.results8 _ _ w.heap.size (w.heap.size + 1) 27 29 (iv .i64 (zrow 49)) (iv .i64 zs7) (0, 0) (0, 0) _ _ _ rfl rfl rfl (unhide KT2) (setRow_heap _ _ _ _ _ _ (unhide KT1)) Try.underlying27 rfl s147z Try.underlying29 rfl s7z) rfl ?_
    exact ⟨by rw [(unhide HV).1, (unhide HV).2.1, (unhide HV).2.2], Keeps.setRow (Keeps.setRow (unhide HKR) (Or.inr (by omega)) _) (Or.inr (by omega)) _⟩
  | true =>
    have HT : Hid (ldT A fr root = rdT A fr root ∧ ldL A fr root = rdL A fr root ∧ ldE A fr root = if loadB A fr root then 0 else 21) := by show _ ∧ _; unfold ldT ldL ldE rdT rdL; rw [hon]; simp
    obtain ⟨W2, hW2⟩ : ∃ W2, W2 = (w1.alloc (.map #[] 0)).alloc (.cells #[.pointer (some ⟨b, 0, none⟩), .int .i64 fr, .map (some (w.heap.size + 1 + 1))] 63) := ⟨_, rfl⟩
    have hka : Keeps (fun _ => False) w1 W2 := by rw [hW2]; exact ((Keeps.refl _ _).alloc _).alloc _
    have R2 := hide ((unhide R1).keeps hka (fun _ _ => id))
    have HM : Hid (NamedM W2 (w.heap.size + 1 + 1) []) := by
      have h1 := named_new w1
      rw [unhide HSZ] at h1
      rw [hW2]
      exact h1.keeps (F := fun _ => False) ((Keeps.refl _ _).alloc _) id
    have GD : Hid (W2.heap[w.heap.size + 1 + 1 + 1]? = some (.cells #[.pointer (some ⟨b, 0, none⟩), .int .i64 fr, .map (some (w.heap.size + 1 + 1))] 63 (0, 0))) := by
      have := heap_new (w1.alloc (.map #[] 0)) (.cells #[.pointer (some ⟨b, 0, none⟩), .int .i64 fr, .map (some (w.heap.size + 1 + 1))] 63)
      rw [hW2]
      rw [show (w1.alloc (.map #[] 0)).heap.size = w.heap.size + 1 + 1 + 1 by simp [unhide HSZ]] at this
      exact this
    have hs1 := unhide HSZ
    have K1 := hide ((hka.block _ (by omega) id).trans (unhide G1))
    have K2 := hide ((hka.block _ (by omega) id).trans (unhide G2))
    have HK2 := hide ((unhide HK1).trans' hka)
    have HS2 : Hid (W2.heap.size = w.heap.size + 1 + 1 + 1 + 1) := by show _ = _; rw [hW2]; simp [unhide HSZ]
    have HW2 := hide hW2
    have C2 := hide (dread_any (unhide R2) hon hn hlk (w.heap.size + 1 + 1) (fun hf => by have := unhide HFL _ hf; omega) (unhide HM) fr root hz)
    have hmm := @run_makeMap Try.prog
    clear hW2 hka hon R1 G1 G2 HK1
    go_upto_region 4 with fail
    rw [← unhide HW2]
    clear HW2 hmm
    have d0 : W2.cell? ⟨w.heap.size + 1 + 1 + 1, 0, none⟩ = some (.pointer (some ⟨b, 0, none⟩)) := by rw [cell_of_block (unhide GD)]; rfl
    have d1 : W2.cell? ⟨w.heap.size + 1 + 1 + 1, 1, none⟩ = some (.int .i64 fr) := by rw [cell_of_block (unhide GD)]; rfl
    have d2 : W2.cell? ⟨w.heap.size + 1 + 1 + 1, 2, none⟩ = some (.map (some (w.heap.size + 1 + 1))) := by rw [cell_of_block (unhide GD)]; rfl
    go_wp2_with fail
    refine (unhide C2).mono ?_
    rintro e w3 ⟨rfl, hk3⟩
    have hs2 := unhide HS2
    have hs3 := hk3.size
    have KA := hide ((hk3.block _ (by omega) (by omega)).trans (unhide K1))
    have KB := hide ((hk3.block _ (by omega) (by omega)).trans (unhide K2))
    have HK3 : Hid (Keeps (fun _ => False) w w3) := ⟨hk3.os.trans (unhide HK2).os, hk3.tape.trans (unhide HK2).tape, hk3.output.trans (unhide HK2).output, by omega, fun k hk _ => (hk3.block k (by omega) (by omega)).trans ((unhide HK2).block k hk id)⟩
    clear hk3 C2 R2 HM GD K1 K2 HK2 d0 d1 d2
    have eT : (iv .i64 (zrow 49)).size = (iv .i64 (rdT A fr root)).size := by rw [iv_size, iv_size, rdT_len, zrow_len]
    have eL : (iv .i64 zs7).size = (iv .i64 (rdL A fr root)).size := by rw [iv_size, iv_size, rdL_len]; rfl
    have sT := s147_of (rdT A fr root) (rdT_len _ _ _)
    have sL := s7_of (rdL A fr root) (rdL_len _ _ _)
    have KB1 := hide ((setRow_other w3 w.heap.size (w.heap.size + 1) (iv .i64 (rdT A fr root)) (by omega)).trans (unhide KB))
    have KT := hide ((setRow_other (w3.setRow w.heap.size (iv .i64 (rdT A fr root))) (w.heap.size + 1) w.heap.size (iv .i64 (rdL A fr root)) (by omega)).trans (setRow_heap _ _ _ (iv .i64 (rdT A fr root)) _ _ (unhide KA)))
    have KL := hide (setRow_heap (w3.setRow w.heap.size (iv .i64 (rdT A fr root))) (w.heap.size + 1) _ (iv .i64 (rdL A fr root)) _ _ (unhide KB1))
    have HKR : Hid (Keeps (fun _ => False) w ((w3.setRow w.heap.size (iv .i64 (rdT A fr root))).setRow (w.heap.size + 1) (iv .i64 (rdL A fr root)))) := Keeps.setRow (Keeps.setRow (unhide HK3) (Or.inr (by omega)) _) (Or.inr (by omega)) _
    go_upto_region 5 with (first | (with_reducible refine wpList_store_row (by with_unfolding_all rfl) 27 _ _ (by with_unfolding_all rfl) w.heap.size (iv .i64 (rdT A fr root)) (by with_unfolding_all rfl) (by with_unfolding_all rfl) _ _ (unhide KA) sT eT (iv_one _ _) ?_) | (with_reducible refine wpList_store_row (by with_unfolding_all rfl) 29 _ _ (by with_unfolding_all rfl) (w.heap.size + 1) (iv .i64 (rdL A fr root)) (by with_unfolding_all rfl) (by with_unfolding_all rfl) _ _ (unhide KB1) sL eL (iv_one _ _) ?_))
    clear KA KB KB1 HK3
    generalize (w3.setRow w.heap.size (iv .i64 (rdT A fr root))).setRow (w.heap.size + 1) (iv .i64 (rdL A fr root)) = w4 at *
    have ZT1 : Hid ((iv .i64 (rdT A fr root)).size = (iv .i64 (zrow 49)).size) := eT.symm
    have ZL1 : Hid ((iv .i64 (rdL A fr root)).size = (iv .i64 zs7).size) := eL.symm
    cases hb : loadB A fr root with
    | false =>
      have HV : Hid (ldT A fr root = zrow 49 ∧ ldL A fr root = zs7 ∧ ldE A fr root = 21) := by
        obtain ⟨a1, a2, a3⟩ := unhide HT
        show _ ∧ _
        rw [a1, a2, a3, hb]; unfold rdT rdL; rw [hb]; simp
      clear hb HT
      have KT1 := hide ((setRow_other w4 w.heap.size (w.heap.size + 1) (iv .i64 (zrow 49)) (by omega)).trans (unhide KL))
      have KT2 := hide ((setRow_other (w4.setRow w.heap.size (iv .i64 (zrow 49))) (w.heap.size + 1) w.heap.size (iv .i64 zs7) (by omega)).trans (setRow_heap _ _ _ (iv .i64 (zrow 49)) _ _ (unhide KT)))
      go_wp2_with (first | (refine wpList_build0 rfl 27 rfl _ build147 ?_) | (refine wpList_build0 rfl 29 rfl _ build7x ?_) | (with_reducible refine wpList_store_row (by with_unfolding_all rfl) 27 _ _ (by with_unfolding_all rfl) w.heap.size (iv .i64 (zrow 49)) (by with_unfolding_all rfl) (by with_unfolding_all rfl) _ _ (unhide KT) s147z (unhide ZT1) (iv_one _ _) ?_) | (with_reducible refine wpList_store_row (by with_unfolding_all rfl) 29 _ _ (by with_unfolding_all rfl) (w.heap.size + 1) (iv .i64 zs7) (by with_unfolding_all rfl) (by with_unfolding_all rfl) _ _ (unhide KT1) s7z (unhide ZL1) (iv_one _ _) ?_))
      refine bodyPost_ret (v := .tuple #[.agg (iv .i64 (zrow 49)), .agg (iv .i64 zs7), .int .i64 21]) (results_three Try.results8 _ _ w.heap.size (w.heap.size + 1) 27 29 (iv .i64 (zrow 49)) (iv .i64 zs7) (0, 0) (0, 0) _ _ _ rfl rfl rfl (unhide KT2) (setRow_heap _ _ _ _ _ _ (unhide KT1)) Try.underlying27 rfl s147z Try.underlying29 rfl s7z) rfl ?_
      exact ⟨by rw [(unhide HV).1, (unhide HV).2.1, (unhide HV).2.2], Keeps.setRow (Keeps.setRow (unhide HKR) (Or.inr (by omega)) _) (Or.inr (by omega)) _⟩
    | true =>
      have HV : Hid (ldT A fr root = rdT A fr root ∧ ldL A fr root = rdL A fr root ∧ ldE A fr root = 0) := by
        obtain ⟨a1, a2, a3⟩ := unhide HT
        show _ ∧ _
        rw [a1, a2, a3, hb]; simp
      clear hb HT
      generalize rdT A fr root = TT at *
      generalize rdL A fr root = LL at *
      have s147 : (Try.prog.info? 27).map (·.size) = some (iv .i64 TT).toList.length := by rw [Array.length_toList]; exact sT
      have s7b : (Try.prog.info? 29).map (·.size) = some (iv .i64 LL).toList.length := by rw [Array.length_toList]; exact sL
      have RT : Hid (∀ w' : World, (Keeps (fun _ => False) w w' ∧ w'.heap[w.heap.size]? = some (.cells (iv .i64 TT) 27 (0, 0)) ∧ w'.heap[w.heap.size + 1]? = some (.cells (iv .i64 LL) 29 (0, 0))) → w'.rangeAt w.heap.size 0 (iv .i64 TT).toList) := fun w' hS m u hu => by
        rw [cell_of_block hS.2.1, Nat.zero_add, ← Array.getElem?_toList]; exact hu
      have RL : Hid (∀ w' : World, (Keeps (fun _ => False) w w' ∧ w'.heap[w.heap.size]? = some (.cells (iv .i64 TT) 27 (0, 0)) ∧ w'.heap[w.heap.size + 1]? = some (.cells (iv .i64 LL) 29 (0, 0))) → w'.rangeAt (w.heap.size + 1) 0 (iv .i64 LL).toList) := fun w' hS m u hu => by
        rw [cell_of_block hS.2.2, Nat.zero_add, ← Array.getElem?_toList]; exact hu
      go_wp2_with fail
      refine wp_region_noPanic ?_
      refine wp_region_held_drew (S := fun w' => Keeps (fun _ => False) w w' ∧ w'.heap[w.heap.size]? = some (.cells (iv .i64 TT) 27 (0, 0)) ∧ w'.heap[w.heap.size + 1]? = some (.cells (iv .i64 LL) 29 (0, 0))) (by kernel_rfl) ⟨(unhide HKR).drew, unhide KT, unhide KL⟩ (fun hHeld => ?_)
      clear HKR KT KL
      refine take_at 0 31 rfl rfl (by kernel_rfl) (by kernel_rfl) (by kernel_rfl) (yieldsIf_load_mid (by rfl) 27 _ rfl w.heap.size 0 rfl (iv .i64 TT).toList _ (fun w' h => unhide RT w' h) Try.underlying27 rfl s147) hHeld ?_
      simp only [Act.put, List.setIfInBounds_toArray, List.set_cons_zero, List.set_cons_succ]
      refine take_at 1 32 rfl rfl (by kernel_rfl) (by kernel_rfl) (by kernel_rfl) (yieldsIf_load_mid (by rfl) 29 _ rfl (w.heap.size + 1) 0 rfl (iv .i64 LL).toList _ (fun w' h => unhide RL w' h) Try.underlying29 rfl s7b) hHeld ?_
      simp only [Act.put, List.setIfInBounds_toArray, List.set_cons_zero, List.set_cons_succ]
      refine wpAnyH_ready (rs := [2]) (by kernel_rfl) (by simp) ?_
      refine AllReadyH.cons rfl (fun K hK => ?_) AllReadyH.nil
      refine (if_pos (by rfl)).mpr ?_
      refine wp_store_row 27 (.tmp 6) (.tmp 31) rfl w.heap.size (iv .i64 TT) rfl rfl _ _ hHeld.2.1 sT rfl (iv_one _ _) ?_
      refine hK.out _ _ ⟨Keeps.setRow hHeld.1 (Or.inr (by omega)) _, setRow_heap _ _ _ _ _ _ hHeld.2.1, (setRow_other _ _ _ _ (by omega)).trans hHeld.2.2⟩ (fun hNew => ?_)
      clear hK K hHeld
      refine wpAnyH_ready (rs := [3]) (by kernel_rfl) (by simp) ?_
      refine AllReadyH.cons rfl (fun K hK => ?_) AllReadyH.nil
      refine (if_pos (by rfl)).mpr ?_
      refine wp_store_row 29 (.tmp 7) (.tmp 32) rfl (w.heap.size + 1) (iv .i64 LL) rfl rfl _ _ hNew.2.2 sL rfl (iv_one _ _) ?_
      refine hK.out _ _ ⟨Keeps.setRow hNew.1 (Or.inr (by omega)) _, (setRow_other _ _ _ _ (by omega)).trans hNew.2.1, setRow_heap _ _ _ _ _ _ hNew.2.2⟩ (fun hHeld => ?_)
      clear hK K hNew
      refine take_at 4 8 (v := ?_) rfl rfl (by kernel_rfl) (by kernel_rfl) (by kernel_rfl) (Or.inl ⟨by rfl, ?_⟩) hHeld ?_
      rotate_left
      · intro w hSw; go_simp; with_reducible rfl
      simp only [Act.put, List.setIfInBounds_toArray, List.set_cons_zero, List.set_cons_succ]
      refine wpAnyH_done (by kernel_rfl) ?_ _
      refine NoPanic.normal ?_
      have HH := hide hHeld
      clear hHeld
      go_wp2_with fail
      refine bodyPost_ret (v := .tuple #[.agg (iv .i64 TT), .agg (iv .i64 LL), .int .i64 0]) (results_three Try.results8 _ _ w.heap.size (w.heap.size + 1) 27 29 (iv .i64 TT) (iv .i64 LL) (0, 0) (0, 0) _ _ _ rfl rfl rfl (unhide HH).2.1 (unhide HH).2.2 Try.underlying27 rfl sT Try.underlying29 rfl sL) rfl ?_
      exact ⟨by rw [(unhide HV).1, (unhide HV).2.1, (unhide HV).2.2], (unhide HH).1⟩

end Go.Proofs.Ytnjicfnigfkppab
