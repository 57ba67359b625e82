
/-
  For every row of calls, and wherever it is marked, ObjectsKeep returns true: what the base and what is marked name stays as it was. No condition.
-/
import Derived.Test.YtjmgmbigbkllgaaOKept
import Derived.Test.YtjmgmbigbkllgaaLaw
import Derived.Test.YtjmgmbigbkllgaaRows
namespace Go.Proofs.Ytjmgmbigbkllgaa.objectsKeep
open Go.ChangeShapes Go.WideShapes Go.ChangeAt Go.RowKit Go.Joins
set_option linter.unusedVariables false
set_option linter.unusedSimpArgs false
set_option maxRecDepth 100000

set_option maxHeartbeats 16000000 in
theorem walk (W : World) (a : Option Addr) (n cap : Nat) (o : Nat → OOp) (at_ : Int) (hO : OOpsAt W a n cap o) (wat : (Lit.int .i64 at_).wf = true) :
    Calls Try.prog 4 #[.slice a n cap, .int .i64 at_] W fun e W' => e = .returned (.bool true) ∧ Below W.heap.size W W' := by
  have hat : In64 at_ := in64_wf wat
  have CK80 := hide (okind_any at_ hat 80 (by decide) (by decide))
  obtain ⟨k80, hk80⟩ : ∃ k80, k80 = kindN at_ 80 := ⟨_, rfl⟩
  rw [← hk80] at CK80
  clear hk80 hat wat
  obtain ⟨hn, hops⟩ := hO
  have HO := hide hops
  clear hops
  obtain ⟨n80, hn80⟩ : ∃ n80, n80 = min n 80 := ⟨_, rfl⟩
  have hmn : n80 ≤ n := by omega
  have hm80 : n80 ≤ 80 := by omega
  have hmm : n80 = n ∨ n80 = 80 := by omega
  clear hn80
  go_enter Try.func4, Try.ntmps4
  go_wp2_with fail
  refine (oshown_any W).mono ?_
  rintro e w0 ⟨rfl, hk0⟩
  have HK0 := hide hk0
  clear hk0
  go_wp2_with fail
  refine (new_any w0 100 (by decide) (by decide)).mono ?_
  intro e w1 hm
  obtain ⟨m, rfl, h0, -⟩ := made_has W (unhide HK0) hm (fun _ => False) (fun _ h => h.elim)
  have H0 : Hid (Has W w1 (fun _ => False) m (sA 100)) := h0
  have T0 : Hid (Stay W (fun w G => Has W w G m (sA 100))) := Has.stay W m _
  clear hm h0 HK0
  go_wp2_with fail
  refine (table_any 12 (by decide) w1).mono ?_
  rintro e w2 ⟨rfl, hb⟩
  have H1 : Hid (Has W w2 (fun _ => False) m (sA 100)) := (unhide T0).bl _ _ _ (unhide H0) (Keeps.of_below hb)
  clear hb H0
  go_wp2_with fail
  refine (dir_any w2).mono ?_
  rintro e w3 ⟨rfl, hb⟩
  have H2 : Hid (Has W w3 (fun _ => False) m (sA 100)) := (unhide T0).bl _ _ _ (unhide H1) (Keeps.of_below hb)
  clear hb H1 T0
  go_wp2_with fail
  refine (sof_tbl 12 100 (by decide) (by decide) (by decide) w3 _ (unhide H2)).mono ?_
  rintro e w4 ⟨b, rfl, h1, -⟩
  have HS : Hid (SHas W m b (fun A w G => Has W w G m A) (sS 12 100) (sA 100) w4 (fun _ => False)) := h1
  clear h1 H2
  have M := hide (Has.memL W m)
  obtain ⟨i0, hi, hz0, hz1, hz2⟩ := info_parts info_line
  go_upto_region 9 with (at_make; refine wpList_make_full _ rfl _ _ 45 rfl w4.heap.size 56 i0 _ 8 Try.underlying45 hi hz0 hz1 .i64 .i64 _ _ 100 rfl rfl rfl rfl (by rw [hz2]; decide) (by decide) (Nat.le_refl _) ?_; intro w5 hown hgrow)
  have O0 := hide (((Held.start (SHas.stay (unhide M) b _ _) (unhide HS)).alloc (SHas.stay (unhide M) b _ _) (.cells (keptV fun _ _ => 0) 56)).keeps (SHas.stay (unhide M) b _ _) (keeps_made (Keeps.grown (Keeps.refl _ _) hgrow (fun k hk => by simp at hk)) (made_kept hown)))
  clear hown hgrow i0 hi hz0 hz1 hz2 HS
  obtain ⟨gk, hgk⟩ : ∃ gk, gk = w4.heap.size := ⟨_, rfl⟩
  rw [← hgk] at O0 ⊢
  clear hgk
  go_wp2_with fail
  go_loopw [11, 12, 13, 14] (fun mv q _ _ wr => ∃ j : Nat, j ≤ n80 ∧ q = .int .i64 j ∧ ∃ (mk : Bool) (S : Sto) (A : Mm) (K : Nat → Nat → Int), mv = .bool mk ∧ KInv S A mk K ∧ A.ok (8 * j) ∧ Held W (SHas W m b (fun A w G => Has W w G m A) S A) w4 wr (fun _ => False) [(gk, .cells (keptV K) 56)]) (fun _ q _ _ _ => n80 - (intOf q).toNat)
  case atStart => exact ⟨0, by omega, rfl, false, _, _, _, rfl, KInv.start _, sA_ok 100 (by decide) (by decide), unhide O0⟩
  case round =>
    clear O0
    obtain ⟨j, hj, rfl, mk, S0, A0, K, rfl, hki, hao, hh⟩ := hrel
    have HH := hide hh
    have KI0 := hide hki
    have AO := hide hao
    clear hh hki hao
    by_cases hlt : j < n80
    · obtain ⟨x, off, rfl, hx⟩ : ∃ b off, a = some ⟨b, off, none⟩ ∧ ∀ i, i < n → OOpAt W b (off + i * 4) (o i) := by
        rcases unhide HO with h | h
        · omega
        · exact h
      have hxj := hx j (by omega)
      have R0 := hide (rangeAt_keeps hxj.1 (unhide HH).st.st.keeps id)
      have hfit := hide hxj.2
      have hjn : (j : Int) < (n : Int) := by omega
      have hj80 : (j : Int) < 80 := by omega
      have s4 : (Try.prog.info? 48).map (·.size) = some (o j).cells.length := by show _ = some 4; kernel_rfl
      clear hx hxj
      obtain ⟨kd, id, wd, v, hop⟩ : ∃ kd id wd v, o j = ⟨kd, id, wd, v⟩ := ⟨_, _, _, _, rfl⟩
      rw [hop] at R0 hfit s4
      clear hop
      obtain ⟨F1, hF1⟩ : ∃ F1 : Sto × Mm, F1 = (stepS S0 A0 ⟨kd, id, wd, v⟩, stepM S0 A0 ⟨kd, id, wd, v⟩) := ⟨_, rfl⟩
      have KI : Hid (KInv F1.1 F1.2 mk K) := by rw [hF1]; exact (unhide KI0).step _
      have AO1 : Hid (F1.2.ok (8 * (j + 1))) := by rw [hF1]; exact ok_mono (stepM_ok (unhide AO) _ (unhide hfit).2.2.2) (by omega)
      have MS := hide (unhide KI0).ok
      have EN := hide hF1
      clear hF1 KI0
      have R1 : Hid (wr.rangeAt x (off + j * 4) [.int .i64 kd, .int .i64 id, .int .i64 wd, .int .u64 v]) := unhide R0
      have s4' : (Try.prog.info? 48).map (·.size) = some [Value.int .i64 kd, .int .i64 id, .int .i64 wd, .int .u64 v].length := s4
      go_upto_region 14 with (with_reducible refine wpList_load_mid (by with_unfolding_all rfl) 48 _ (by with_unfolding_all rfl) x (off + j * 4) (by with_unfolding_all rfl) [.int .i64 kd, .int .i64 id, .int .i64 wd, .int .u64 v] _ (unhide R1) Try.underlying48 (by with_unfolding_all rfl) s4' ?_)
      clear R0 R1 s4 s4'
      have O2 := hide ((unhide HH).alloc (SHas.stay (unhide M) b _ _) (.cells #[.int .i64 kd, .int .i64 id, .int .i64 wd, .int .u64 v] 48))
      obtain ⟨g, hg⟩ : ∃ g, g = wr.heap.size := ⟨_, rfl⟩
      rw [← hg] at O2 ⊢
      generalize wr.alloc (.cells #[.int .i64 kd, .int .i64 id, .int .i64 wd, .int .u64 v] 48) = w6 at *
      clear hg HH
      have kg := (unhide O2).at g (.cells #[.int .i64 kd, .int .i64 id, .int .i64 wd, .int .u64 v] 48) (by simp)
      have c0 : w6.cell? ⟨g, 0, none⟩ = some (.int .i64 kd) := by rw [cell_of_block kg]; rfl
      have c1 : w6.cell? ⟨g, 1, none⟩ = some (.int .i64 id) := by rw [cell_of_block kg]; rfl
      have c2 : w6.cell? ⟨g, 2, none⟩ = some (.int .i64 wd) := by rw [cell_of_block kg]; rfl
      have c3 : w6.cell? ⟨g, 3, none⟩ = some (.int .u64 v) := by rw [cell_of_block kg]; rfl
      clear kg
      have K3 := hide (okind_any kd (unhide hfit).1 3 (by decide) (by decide))
      have KI := hide (okind_any id (unhide hfit).2.1 20 (by decide) (by decide))
      have K8 := hide (okind_any wd (unhide hfit).2.2.1 8 (by decide) (by decide))
      have K2 := hide (okind_any wd (unhide hfit).2.2.1 2 (by decide) (by decide))
      have HU : Hid (InU v) := (unhide hfit).2.2.2
      have h3 := kindN_lt kd 3 (by decide)
      obtain ⟨k3, hk3⟩ : ∃ k3, k3 = kindN kd 3 := ⟨_, rfl⟩
      obtain ⟨ki, hki⟩ : ∃ ki, ki = kindN id 20 := ⟨_, rfl⟩
      obtain ⟨k8, hk8⟩ : ∃ k8, k8 = kindN wd 8 := ⟨_, rfl⟩
      obtain ⟨k2, hk2⟩ : ∃ k2, k2 = kindN wd 2 := ⟨_, rfl⟩
      have b2 : k2 < 2 := by rw [hk2]; exact kindN_lt _ _ (by decide)
      have EN2 : Hid (F1 = (if k3 = 0 then S0.setS A0 (ki : Int) (k8 : Int) v else if k3 = 1 then S0.makeS A0 (1 + (k2 : Int)) else S0.endS (ki : Int), if k3 = 0 then S0.setM A0 (ki : Int) (k8 : Int) v else if k3 = 1 then S0.makeM A0 (1 + (k2 : Int)) else A0)) := by
        show _ = _; rw [hk3, hki, hk8, hk2]; exact unhide EN
      rw [← hk3] at K3 h3
      rw [← hki] at KI
      rw [← hk8] at K8
      rw [← hk2] at K2
      clear hk3 hki hk8 hk2 EN
      rcases (show k3 = 0 ∨ k3 = 1 ∨ k3 = 2 by omega) with rfl | rfl | rfl
      · have E0 : Hid (F1 = (S0.setS A0 (ki : Int) (k8 : Int) v, S0.setM A0 (ki : Int) (k8 : Int) v)) := unhide EN2
        have CS := hide (fun (w' : World) G (h : SHas W m b (fun A w G => Has W w G m A) S0 A0 w' G) => set_any (unhide M) h (unhide MS) (ok_mono (unhide AO) (by omega)) (ki : Int) (k8 : Int) v (unhide HU))
        clear EN2 K2 h3
        go_wp2_with fail
        refine (unhide K3 _).mono ?_
        rintro e w6 ⟨rfl, rfl⟩
        go_upto_region 16 with fail
        have O3 := hide ((unhide O2).drew (SHas.stay (unhide M) b _ _))
        refine wp_region_noPanic ?_
        refine wp_region_held_drew (S := fun w' => w'.cell? ⟨g, 1, none⟩ = some (.int .i64 id) ∧ w'.cell? ⟨g, 2, none⟩ = some (.int .i64 wd) ∧ w'.cell? ⟨g, 3, none⟩ = some (.int .u64 v)) (by kernel_rfl) ⟨c1, c2, c3⟩ (fun hHeld => ?_)
        clear c0 c1 c2 c3 O2 K3
        generalize w6.drew = w7 at *
        refine take_at 0 64 (v := ?_) rfl rfl (by kernel_rfl) (by kernel_rfl) (by kernel_rfl) (Or.inl ⟨by rfl, ?_⟩) hHeld ?_
        rotate_left
        · intro w hSw; go_simp; with_reducible rfl
        simp only [Act.put, List.setIfInBounds_toArray, List.set_cons_zero, List.set_cons_succ]
        refine take_at 1 65 (v := ?_) rfl rfl (by kernel_rfl) (by kernel_rfl) (by kernel_rfl) (Or.inl ⟨by rfl, ?_⟩) hHeld ?_
        rotate_left
        · intro w hSw; go_simp; with_reducible rfl
        simp only [Act.put, List.setIfInBounds_toArray, List.set_cons_zero, List.set_cons_succ]
        refine take_at 2 66 (v := ?_) rfl rfl (by kernel_rfl) (by kernel_rfl) (by kernel_rfl) (Or.inl ⟨by rfl, ?_⟩) hHeld ?_
        rotate_left
        · intro w hSw; obtain ⟨s1, s2, s3⟩ := hSw; go_simp; with_reducible rfl
        simp only [Act.put, List.setIfInBounds_toArray, List.set_cons_zero, List.set_cons_succ]
        refine take_at 4 68 (v := ?_) rfl rfl (by kernel_rfl) (by kernel_rfl) (by kernel_rfl) (Or.inl ⟨by rfl, ?_⟩) hHeld ?_
        rotate_left
        · intro w hSw; go_simp; with_reducible rfl
        simp only [Act.put, List.setIfInBounds_toArray, List.set_cons_zero, List.set_cons_succ]
        refine take_at 5 69 (v := ?_) rfl rfl (by kernel_rfl) (by kernel_rfl) (by kernel_rfl) (Or.inl ⟨by rfl, ?_⟩) hHeld ?_
        rotate_left
        · intro w hSw; obtain ⟨s1, s2, s3⟩ := hSw; go_simp; with_reducible rfl
        simp only [Act.put, List.setIfInBounds_toArray, List.set_cons_zero, List.set_cons_succ]
        refine take_at 7 71 (v := ?_) rfl rfl (by kernel_rfl) (by kernel_rfl) (by kernel_rfl) (Or.inl ⟨by rfl, ?_⟩) hHeld ?_
        rotate_left
        · intro w hSw; go_simp; with_reducible rfl
        simp only [Act.put, List.setIfInBounds_toArray, List.set_cons_zero, List.set_cons_succ]
        refine take_at 8 72 (v := ?_) rfl rfl (by kernel_rfl) (by kernel_rfl) (by kernel_rfl) (Or.inl ⟨by rfl, ?_⟩) hHeld ?_
        rotate_left
        · intro w hSw; obtain ⟨s1, s2, s3⟩ := hSw; go_simp; with_reducible rfl
        simp only [Act.put, List.setIfInBounds_toArray, List.set_cons_zero, List.set_cons_succ]
        refine wpAnyH_ready (rs := [3]) (by kernel_rfl) (by simp) ?_
        refine AllReadyH.cons rfl (fun K hK => ?_) AllReadyH.nil
        go_simp
        refine (unhide KI _).mono ?_
        rintro e w7 ⟨rfl, rfl⟩
        go_wp2_with fail
        refine hK.out _ _ hHeld (fun hNew => ?_)
        clear hK K hNew
        refine wpAnyH_ready (rs := [6]) (by kernel_rfl) (by simp) ?_
        refine AllReadyH.cons rfl (fun K hK => ?_) AllReadyH.nil
        go_simp
        refine (unhide K8 _).mono ?_
        rintro e w7 ⟨rfl, rfl⟩
        go_wp2_with fail
        refine hK.out _ _ hHeld (fun hNew => ?_)
        clear hK K hNew KI K8
        refine wpAnyH_ready (rs := [9]) (by kernel_rfl) (by simp) ?_
        refine AllReadyH.cons rfl (fun K hK => ?_) AllReadyH.nil
        go_simp
        refine (unhide CS _ _ (unhide O3).st).mono ?_
        rintro e w9 ⟨rfl, h1, h2⟩
        have O4 := hide ((unhide O3).call (St' := SHas W m b (fun A w G => Has W w G m A) (S0.setS A0 (ki : Int) (k8 : Int) v) (S0.setM A0 (ki : Int) (k8 : Int) v)) h1 h2)
        have kg := (unhide O4).at g (.cells #[.int .i64 kd, .int .i64 id, .int .i64 wd, .int .u64 v] 48) (by simp)
        generalize S0.setE A0 (ki : Int) (k8 : Int) v = E9 at *
        go_wp2_with fail
        clear hHeld
        refine hK.out _ _ ⟨by rw [cell_of_block kg]; rfl, by rw [cell_of_block kg]; rfl, by rw [cell_of_block kg]; rfl⟩ (fun hNew => ?_)
        clear hK K hNew h1 h2 O3 CS kg
        refine wpAnyH_done (by kernel_rfl) ?_ _
        refine NoPanic.normal ?_
        have O3 := O4
        clear O4
        have O4 : Hid (Held W (SHas W m b (fun A w G => Has W w G m A) F1.1 F1.2) w4 w9 (fun _ => False) [(g, .cells #[.int .i64 kd, .int .i64 id, .int .i64 wd, .int .u64 v] 48), (gk, .cells (keptV K) 56)]) := by
          show Held _ _ _ _ _ _
          rw [unhide E0]; exact unhide O3
        clear O3 E0
        cases mk with
        | true =>
          have O5 := hide ((unhide O4).less (SHas.stay (unhide M) b _ _) (L' := [(gk, .cells (keptV K) 56)]) (fun p hp => List.mem_cons_of_mem _ hp))
          clear O4 CK80
          go_wp2_with fail
          go_roundw
          case rel => exact ⟨j + 1, by omega, by go_num, true, _, _, K, rfl, unhide KI, unhide AO1, unhide O5⟩
          case measure => simp [intOf]; omega
        | false =>
          go_wp2_with fail
          refine (unhide CK80 _).mono ?_
          rintro e w9 ⟨rfl, rfl⟩
          by_cases hjk : j = k80
          · have hjk1 : ((j : Int) == (k80 : Int)) = true := by simp [hjk]
            have CM := hide (mark_obj (unhide M) (unhide O4).st)
            have KM := hide (fun K' hK => (unhide KI).mark (K' := K') hK)
            have e0 := ((unhide KI).mark (K' := fun z q => F1.2.hasZ (z : Int) q) (fun _ _ _ _ => rfl)).1
            rw [e0] at CM
            have HN : Hid (F1.2.n ≤ 1024) := by show _ ≤ _; rw [(unhide KI).n]; decide
            clear e0 hjk KI CK80
            go_wp2_with fail
            refine (unhide CM).mono ?_
            rintro e wa ⟨rfl, h1, h2⟩
            have O5 := hide (((unhide O4).call (St' := SHas W m b (fun A w G => Has W w G m A) F1.1.markS F1.2) h1 h2).less (SHas.stay (unhide M) b _ _) (L' := [(gk, .cells (keptV K) 56)]) (fun p hp => List.mem_cons_of_mem _ hp))
            clear h1 h2 CM O4
            generalize F1.1.markS = S2 at *
            generalize F1.2 = A2 at *
            have E1 : Hid (keptTo A2 K 0 = K) := keptTo_zero A2 K
            go_wp2_with fail
            go_loopw [14] (fun c wr => ∃ k : Nat, k ≤ 100 ∧ c = .int .i64 k ∧ Held W (SHas W m b (fun A w G => Has W w G m A) S2 A2) w4 wr (fun _ => False) [(gk, .cells (keptV (keptTo A2 K k)) 56)]) (fun c _ => 100 - (intOf c).toNat)
            case atStart => exact ⟨0, by omega, rfl, by rw [unhide E1]; exact unhide O5⟩
            case round =>
              clear O5 E1
              obtain ⟨k, hk, rfl, hh⟩ := hrel
              have HH := hide hh
              clear hh
              by_cases hlk : k < 100
              · have hk100 : (k : Int) < 100 := by omega
                have CL := hide ((unhide HH).st.load (unhide M) (unhide HN) (k : Int))
                have KP := hide (fun (w : World) (h : w.heap[gk]? = some (.cells (keptV (keptTo A2 K k)) 56 (0, 0))) => kept_put hlk h)
                have s8 : (Try.prog.info? 56).map (·.size) = some (lnV (A2.hasZ (k : Int))).size := s8_ln _
                have X8 := lnV_one (A2.hasZ (k : Int))
                have z8 := lnV_size (A2.hasZ (k : Int))
                generalize lnV (A2.hasZ (k : Int)) = LV at *
                generalize A2.loadE (k : Int) = E9 at *
                go_wp2_with fail
                refine (unhide CL).mono ?_
                rintro e wb ⟨rfl, h1, h2⟩
                have O6 := hide ((unhide HH).call (St' := SHas W m b (fun A w G => Has W w G m A) S2 A2) h1 h2)
                clear h1 h2 CL HH
                have bk := (unhide O6).at gk (.cells (keptV (keptTo A2 K k)) 56) (by simp)
                have TB : Hid (wb.there gk (k * 8) LV.size) := by rw [z8]; exact kept_there hlk bk
                have O7 : Hid (Held W (SHas W m b (fun A w G => Has W w G m A) S2 A2) w4 (wb.setCells gk (k * 8) LV.toList) (fun _ => False) [(gk, .cells (keptV (keptTo A2 K (k + 1))) 56)]) :=
                  ((unhide O6).turnOwn (SHas.stay (unhide M) b _ _) gk (.cells (keptV (keptTo A2 K k)) 56) _ (by simp) (keeps_sets _ _ _ _ (Keeps.refl _ _)) (unhide KP _ bk)).less (SHas.stay (unhide M) b _ _) (fun p hp => by
                    rcases List.mem_cons.1 hp with h | h
                    · exact List.mem_cons.2 (Or.inl h)
                    · cases h)
                clear bk KP O6
                go_wp2_with (with_reducible refine wpList_store_mid (by with_unfolding_all rfl) 56 _ _ (by with_unfolding_all rfl) gk (k * 8) LV (by with_unfolding_all rfl) (by with_unfolding_all rfl) (unhide TB) s8 X8 ?_)
                go_roundw
                case rel => exact ⟨k + 1, by omega, by go_num, unhide O7⟩
                case measure => simp [intOf]; omega
              · have e100 : k = 100 := by omega
                rw [e100] at HH
                have KI2 := (unhide KM (keptTo A2 K 100) (fun z hz q hq => by show keptTo A2 K 100 z q = _; unfold keptTo; rw [if_pos hz])).2
                go_wp2_with fail
                go_roundw
                case rel => exact ⟨j + 1, by omega, by go_num, true, _, _, _, rfl, KI2, unhide AO1, unhide HH⟩
                case measure => simp [intOf]; omega
          · have hjk1 : ((j : Int) == (k80 : Int)) = false := by simp; omega
            have O5 := hide ((unhide O4).less (SHas.stay (unhide M) b _ _) (L' := [(gk, .cells (keptV K) 56)]) (fun p hp => List.mem_cons_of_mem _ hp))
            clear O4 CK80
            go_wp2_with fail
            go_roundw
            case rel => exact ⟨j + 1, by omega, by go_num, false, _, _, K, rfl, unhide KI, unhide AO1, unhide O5⟩
            case measure => simp [intOf]; omega
      · have E0 : Hid (F1 = (S0.makeS A0 (1 + (k2 : Int)), S0.makeM A0 (1 + (k2 : Int)))) := unhide EN2
        have CS := hide (make_any (unhide M) (unhide O2).st (unhide MS) (ok_mono (unhide AO) (by omega)) (1 + (k2 : Int)))
        clear EN2 KI K8 h3 c1 c3
        generalize S0.makeI A0 (1 + (k2 : Int)) = I9 at *
        generalize S0.makeE A0 (1 + (k2 : Int)) = E9 at *
        go_wp2_with fail
        refine (unhide K3 _).mono ?_
        rintro e w6 ⟨rfl, rfl⟩
        go_wp2_with fail
        refine (unhide K2 _).mono ?_
        rintro e w6 ⟨rfl, rfl⟩
        go_wp2_with fail
        refine (unhide CS).mono ?_
        rintro e w9 ⟨rfl, h1, h2⟩
        have O3 := hide ((unhide O2).call (St' := SHas W m b (fun A w G => Has W w G m A) (S0.makeS A0 (1 + (k2 : Int))) (S0.makeM A0 (1 + (k2 : Int)))) h1 h2)
        clear h1 h2 O2 CS K2 K3 c0 c2
        have O4 : Hid (Held W (SHas W m b (fun A w G => Has W w G m A) F1.1 F1.2) w4 w9 (fun _ => False) [(g, .cells #[.int .i64 kd, .int .i64 id, .int .i64 wd, .int .u64 v] 48), (gk, .cells (keptV K) 56)]) := by
          show Held _ _ _ _ _ _
          rw [unhide E0]; exact unhide O3
        clear O3 E0
        cases mk with
        | true =>
          have O5 := hide ((unhide O4).less (SHas.stay (unhide M) b _ _) (L' := [(gk, .cells (keptV K) 56)]) (fun p hp => List.mem_cons_of_mem _ hp))
          clear O4 CK80
          go_wp2_with fail
          go_roundw
          case rel => exact ⟨j + 1, by omega, by go_num, true, _, _, K, rfl, unhide KI, unhide AO1, unhide O5⟩
          case measure => simp [intOf]; omega
        | false =>
          go_wp2_with fail
          refine (unhide CK80 _).mono ?_
          rintro e w9 ⟨rfl, rfl⟩
          by_cases hjk : j = k80
          · have hjk1 : ((j : Int) == (k80 : Int)) = true := by simp [hjk]
            have CM := hide (mark_obj (unhide M) (unhide O4).st)
            have KM := hide (fun K' hK => (unhide KI).mark (K' := K') hK)
            have e0 := ((unhide KI).mark (K' := fun z q => F1.2.hasZ (z : Int) q) (fun _ _ _ _ => rfl)).1
            rw [e0] at CM
            have HN : Hid (F1.2.n ≤ 1024) := by show _ ≤ _; rw [(unhide KI).n]; decide
            clear e0 hjk KI CK80
            go_wp2_with fail
            refine (unhide CM).mono ?_
            rintro e wa ⟨rfl, h1, h2⟩
            have O5 := hide (((unhide O4).call (St' := SHas W m b (fun A w G => Has W w G m A) F1.1.markS F1.2) h1 h2).less (SHas.stay (unhide M) b _ _) (L' := [(gk, .cells (keptV K) 56)]) (fun p hp => List.mem_cons_of_mem _ hp))
            clear h1 h2 CM O4
            generalize F1.1.markS = S2 at *
            generalize F1.2 = A2 at *
            have E1 : Hid (keptTo A2 K 0 = K) := keptTo_zero A2 K
            go_wp2_with fail
            go_loopw [14] (fun c wr => ∃ k : Nat, k ≤ 100 ∧ c = .int .i64 k ∧ Held W (SHas W m b (fun A w G => Has W w G m A) S2 A2) w4 wr (fun _ => False) [(gk, .cells (keptV (keptTo A2 K k)) 56)]) (fun c _ => 100 - (intOf c).toNat)
            case atStart => exact ⟨0, by omega, rfl, by rw [unhide E1]; exact unhide O5⟩
            case round =>
              clear O5 E1
              obtain ⟨k, hk, rfl, hh⟩ := hrel
              have HH := hide hh
              clear hh
              by_cases hlk : k < 100
              · have hk100 : (k : Int) < 100 := by omega
                have CL := hide ((unhide HH).st.load (unhide M) (unhide HN) (k : Int))
                have KP := hide (fun (w : World) (h : w.heap[gk]? = some (.cells (keptV (keptTo A2 K k)) 56 (0, 0))) => kept_put hlk h)
                have s8 : (Try.prog.info? 56).map (·.size) = some (lnV (A2.hasZ (k : Int))).size := s8_ln _
                have X8 := lnV_one (A2.hasZ (k : Int))
                have z8 := lnV_size (A2.hasZ (k : Int))
                generalize lnV (A2.hasZ (k : Int)) = LV at *
                generalize A2.loadE (k : Int) = E9 at *
                go_wp2_with fail
                refine (unhide CL).mono ?_
                rintro e wb ⟨rfl, h1, h2⟩
                have O6 := hide ((unhide HH).call (St' := SHas W m b (fun A w G => Has W w G m A) S2 A2) h1 h2)
                clear h1 h2 CL HH
                have bk := (unhide O6).at gk (.cells (keptV (keptTo A2 K k)) 56) (by simp)
                have TB : Hid (wb.there gk (k * 8) LV.size) := by rw [z8]; exact kept_there hlk bk
                have O7 : Hid (Held W (SHas W m b (fun A w G => Has W w G m A) S2 A2) w4 (wb.setCells gk (k * 8) LV.toList) (fun _ => False) [(gk, .cells (keptV (keptTo A2 K (k + 1))) 56)]) :=
                  ((unhide O6).turnOwn (SHas.stay (unhide M) b _ _) gk (.cells (keptV (keptTo A2 K k)) 56) _ (by simp) (keeps_sets _ _ _ _ (Keeps.refl _ _)) (unhide KP _ bk)).less (SHas.stay (unhide M) b _ _) (fun p hp => by
                    rcases List.mem_cons.1 hp with h | h
                    · exact List.mem_cons.2 (Or.inl h)
                    · cases h)
                clear bk KP O6
                go_wp2_with (with_reducible refine wpList_store_mid (by with_unfolding_all rfl) 56 _ _ (by with_unfolding_all rfl) gk (k * 8) LV (by with_unfolding_all rfl) (by with_unfolding_all rfl) (unhide TB) s8 X8 ?_)
                go_roundw
                case rel => exact ⟨k + 1, by omega, by go_num, unhide O7⟩
                case measure => simp [intOf]; omega
              · have e100 : k = 100 := by omega
                rw [e100] at HH
                have KI2 := (unhide KM (keptTo A2 K 100) (fun z hz q hq => by show keptTo A2 K 100 z q = _; unfold keptTo; rw [if_pos hz])).2
                go_wp2_with fail
                go_roundw
                case rel => exact ⟨j + 1, by omega, by go_num, true, _, _, _, rfl, KI2, unhide AO1, unhide HH⟩
                case measure => simp [intOf]; omega
          · have hjk1 : ((j : Int) == (k80 : Int)) = false := by simp; omega
            have O5 := hide ((unhide O4).less (SHas.stay (unhide M) b _ _) (L' := [(gk, .cells (keptV K) 56)]) (fun p hp => List.mem_cons_of_mem _ hp))
            clear O4 CK80
            go_wp2_with fail
            go_roundw
            case rel => exact ⟨j + 1, by omega, by go_num, false, _, _, K, rfl, unhide KI, unhide AO1, unhide O5⟩
            case measure => simp [intOf]; omega
      · have E0 : Hid (F1 = (S0.endS (ki : Int), A0)) := unhide EN2
        have CS := hide (end_obj (unhide M) (unhide O2).st (unhide MS) (ki : Int))
        clear EN2 K2 K8 h3 c2 c3
        generalize S0.findE (ki : Int) = E9 at *
        go_wp2_with fail
        refine (unhide K3 _).mono ?_
        rintro e w6 ⟨rfl, rfl⟩
        go_wp2_with fail
        refine (unhide KI _).mono ?_
        rintro e w6 ⟨rfl, rfl⟩
        go_wp2_with fail
        refine (unhide CS).mono ?_
        rintro e w9 ⟨rfl, h1, h2⟩
        have O3 := hide ((unhide O2).call (St' := SHas W m b (fun A w G => Has W w G m A) (S0.endS (ki : Int)) A0) h1 h2)
        clear h1 h2 O2 CS KI K3 c0 c1
        have O4 : Hid (Held W (SHas W m b (fun A w G => Has W w G m A) F1.1 F1.2) w4 w9 (fun _ => False) [(g, .cells #[.int .i64 kd, .int .i64 id, .int .i64 wd, .int .u64 v] 48), (gk, .cells (keptV K) 56)]) := by
          show Held _ _ _ _ _ _
          rw [unhide E0]; exact unhide O3
        clear O3 E0
        cases mk with
        | true =>
          have O5 := hide ((unhide O4).less (SHas.stay (unhide M) b _ _) (L' := [(gk, .cells (keptV K) 56)]) (fun p hp => List.mem_cons_of_mem _ hp))
          clear O4 CK80
          go_wp2_with fail
          go_roundw
          case rel => exact ⟨j + 1, by omega, by go_num, true, _, _, K, rfl, unhide KI, unhide AO1, unhide O5⟩
          case measure => simp [intOf]; omega
        | false =>
          go_wp2_with fail
          refine (unhide CK80 _).mono ?_
          rintro e w9 ⟨rfl, rfl⟩
          by_cases hjk : j = k80
          · have hjk1 : ((j : Int) == (k80 : Int)) = true := by simp [hjk]
            have CM := hide (mark_obj (unhide M) (unhide O4).st)
            have KM := hide (fun K' hK => (unhide KI).mark (K' := K') hK)
            have e0 := ((unhide KI).mark (K' := fun z q => F1.2.hasZ (z : Int) q) (fun _ _ _ _ => rfl)).1
            rw [e0] at CM
            have HN : Hid (F1.2.n ≤ 1024) := by show _ ≤ _; rw [(unhide KI).n]; decide
            clear e0 hjk KI CK80
            go_wp2_with fail
            refine (unhide CM).mono ?_
            rintro e wa ⟨rfl, h1, h2⟩
            have O5 := hide (((unhide O4).call (St' := SHas W m b (fun A w G => Has W w G m A) F1.1.markS F1.2) h1 h2).less (SHas.stay (unhide M) b _ _) (L' := [(gk, .cells (keptV K) 56)]) (fun p hp => List.mem_cons_of_mem _ hp))
            clear h1 h2 CM O4
            generalize F1.1.markS = S2 at *
            generalize F1.2 = A2 at *
            have E1 : Hid (keptTo A2 K 0 = K) := keptTo_zero A2 K
            go_wp2_with fail
            go_loopw [14] (fun c wr => ∃ k : Nat, k ≤ 100 ∧ c = .int .i64 k ∧ Held W (SHas W m b (fun A w G => Has W w G m A) S2 A2) w4 wr (fun _ => False) [(gk, .cells (keptV (keptTo A2 K k)) 56)]) (fun c _ => 100 - (intOf c).toNat)
            case atStart => exact ⟨0, by omega, rfl, by rw [unhide E1]; exact unhide O5⟩
            case round =>
              clear O5 E1
              obtain ⟨k, hk, rfl, hh⟩ := hrel
              have HH := hide hh
              clear hh
              by_cases hlk : k < 100
              · have hk100 : (k : Int) < 100 := by omega
                have CL := hide ((unhide HH).st.load (unhide M) (unhide HN) (k : Int))
                have KP := hide (fun (w : World) (h : w.heap[gk]? = some (.cells (keptV (keptTo A2 K k)) 56 (0, 0))) => kept_put hlk h)
                have s8 : (Try.prog.info? 56).map (·.size) = some (lnV (A2.hasZ (k : Int))).size := s8_ln _
                have X8 := lnV_one (A2.hasZ (k : Int))
                have z8 := lnV_size (A2.hasZ (k : Int))
                generalize lnV (A2.hasZ (k : Int)) = LV at *
                generalize A2.loadE (k : Int) = E9 at *
                go_wp2_with fail
                refine (unhide CL).mono ?_
                rintro e wb ⟨rfl, h1, h2⟩
                have O6 := hide ((unhide HH).call (St' := SHas W m b (fun A w G => Has W w G m A) S2 A2) h1 h2)
                clear h1 h2 CL HH
                have bk := (unhide O6).at gk (.cells (keptV (keptTo A2 K k)) 56) (by simp)
                have TB : Hid (wb.there gk (k * 8) LV.size) := by rw [z8]; exact kept_there hlk bk
                have O7 : Hid (Held W (SHas W m b (fun A w G => Has W w G m A) S2 A2) w4 (wb.setCells gk (k * 8) LV.toList) (fun _ => False) [(gk, .cells (keptV (keptTo A2 K (k + 1))) 56)]) :=
                  ((unhide O6).turnOwn (SHas.stay (unhide M) b _ _) gk (.cells (keptV (keptTo A2 K k)) 56) _ (by simp) (keeps_sets _ _ _ _ (Keeps.refl _ _)) (unhide KP _ bk)).less (SHas.stay (unhide M) b _ _) (fun p hp => by
                    rcases List.mem_cons.1 hp with h | h
                    · exact List.mem_cons.2 (Or.inl h)
                    · cases h)
                clear bk KP O6
                go_wp2_with (with_reducible refine wpList_store_mid (by with_unfolding_all rfl) 56 _ _ (by with_unfolding_all rfl) gk (k * 8) LV (by with_unfolding_all rfl) (by with_unfolding_all rfl) (unhide TB) s8 X8 ?_)
                go_roundw
                case rel => exact ⟨k + 1, by omega, by go_num, unhide O7⟩
                case measure => simp [intOf]; omega
              · have e100 : k = 100 := by omega
                rw [e100] at HH
                have KI2 := (unhide KM (keptTo A2 K 100) (fun z hz q hq => by show keptTo A2 K 100 z q = _; unfold keptTo; rw [if_pos hz])).2
                go_wp2_with fail
                go_roundw
                case rel => exact ⟨j + 1, by omega, by go_num, true, _, _, _, rfl, KI2, unhide AO1, unhide HH⟩
                case measure => simp [intOf]; omega
          · have hjk1 : ((j : Int) == (k80 : Int)) = false := by simp; omega
            have O5 := hide ((unhide O4).less (SHas.stay (unhide M) b _ _) (L' := [(gk, .cells (keptV K) 56)]) (fun p hp => List.mem_cons_of_mem _ hp))
            clear O4 CK80
            go_wp2_with fail
            go_roundw
            case rel => exact ⟨j + 1, by omega, by go_num, false, _, _, K, rfl, unhide KI, unhide AO1, unhide O5⟩
            case measure => simp [intOf]; omega
    · have hjm : j = n80 := by omega
      have HJ := hide hjm
      by_cases hjn : (j : Int) < (n : Int)
      · have hge : ¬ ((j : Int) < 80) := by omega
        go_upto_region 29 with fail
        have TS := hide (SHas.stay (unhide M) b S0 A0)
        have HN : Hid (A0.n ≤ 1024) := by show _ ≤ _; rw [(unhide KI0).n]; decide
        have CB := hide (base_obj (S := S0) (unhide HH).st.rep)
        have CM : Hid (∀ w', SRep m S0 w' b → Calls Try.prog 23 #[.pointer (some ⟨b, 0, none⟩)] w' fun e w2 => e = .returned (.tuple #[.agg (tabV S0.k), .bool mk]) ∧ Below w'.heap.size w' w2) := fun w' h => by
          have := marked_obj h
          rw [(unhide KI0).is] at this; exact this
        have CL : Hid (∀ w' G z, SHas W m b (fun A w G => Has W w G m A) S0 A0 w' G → Calls Try.prog 21 #[.pointer (some ⟨m, 0, none⟩), .int .i64 z] w' (Done (SHas W m b (fun A w G => Has W w G m A) S0 A0) w' G (.tuple #[.agg (lnV (A0.hasZ z)), .int .i64 (A0.loadE z)]))) := fun w' G z h => h.load (unhide M) (unhide HN) z
        have LB := hide (fun i hi hk => (unhide KI0).lineB i hi hk)
        have LK1 : Hid (mk = true → ∀ i, i < 49 → (S0.k i).k ≠ 0 → ∃ z : Nat, (S0.k i).l = (z : Int) ∧ z < 100 ∧ eqL (A0.hasZ (S0.k i).l) (K z) = true) := by
          show mk = true → _
          have q := unhide KI0
          intro hm
          rw [hm] at q
          exact q.lineK
        have s1 := s147_tab S0.b
        have s2 := s147_tab S0.k
        have s3 := s8_dir S0.d
        have X1 := hide (tabV_one S0.b)
        have X2 := hide (tabV_one S0.k)
        have X3 := hide (dirV_one S0.d)
        have Z1 := hide zero_tab
        have Z3 := hide zero_dir
        have SZ1 : Hid ((tabV fun _ => ze).size = (tabV S0.b).size) := by show _ = _; rw [tabV_size, tabV_size]
        have SZ2 : Hid ((tabV fun _ => ze).size = (tabV S0.k).size) := by show _ = _; rw [tabV_size, tabV_size]
        have SZ3 : Hid ((dirV fun _ => 0).size = (dirV S0.d).size) := by show _ = _; rw [dirV_size, dirV_size]
        generalize (tabV fun _ => ze) = ZV at *
        generalize (dirV fun _ => 0) = ZW at *
        have CB2 : Hid (∀ i, i < 49 → (tabV S0.b)[i * 3]? = some (.int .i64 (S0.b i).k) ∧ (tabV S0.b)[i * 3 + 2]? = some (.int .i64 (S0.b i).l)) := fun i hi => ⟨by rw [tabV_cell _ _ (by omega), fl3_0], by rw [tabV_cell _ _ (by omega), fl3_2]⟩
        have CK2 : Hid (∀ i, i < 49 → (tabV S0.k)[i * 3]? = some (.int .i64 (S0.k i).k) ∧ (tabV S0.k)[i * 3 + 2]? = some (.int .i64 (S0.k i).l)) := fun i hi => ⟨by rw [tabV_cell _ _ (by omega), fl3_0], by rw [tabV_cell _ _ (by omega), fl3_2]⟩
        generalize tabV S0.b = TB at *
        generalize tabV S0.k = TK at *
        generalize dirV S0.d = DB at *
        have hmk : (mk != mk) = false := by simp
        clear KI0 AO HO HJ CK80 HN
        generalize (j : Int) = last at *
        go_wp2_with fail
        refine (unhide CB).mono ?_
        rintro e w9 ⟨rfl, hb⟩
        have O1 := hide ((unhide HH).below (unhide TS) hb)
        have hgk := (unhide O1).lt (gk, .cells (keptV K) 56) (by simp)
        have hsz : (w9.alloc (.cells ZV 59)).heap.size = w9.heap.size + 1 := by simp
        clear hb HH CB
        have K17 : Hid (((w9.alloc (.cells ZV 59)).alloc (.cells ZW 60)).heap[w9.heap.size]? = some (.cells ZV 59 (0, 0))) := (heap2 w9 _ _).1
        have K18 : Hid ((((w9.alloc (.cells ZV 59)).alloc (.cells ZW 60)).setRow w9.heap.size TB).heap[w9.heap.size + 1]? = some (.cells ZW 60 (0, 0))) := (setRow_other _ _ _ _ (by omega)).trans (heap2 w9 _ _).2
        have K18' : Hid ((((w9.alloc (.cells ZV 59)).alloc (.cells ZW 60)).setRow w9.heap.size TB).heap[(w9.alloc (.cells ZV 59)).heap.size]? = some (.cells ZW 60 (0, 0))) := by show _ = _; rw [hsz]; exact unhide K18
        have O2 : Hid (Held W (SHas W m b (fun A w G => Has W w G m A) S0 A0) w4 ((((w9.alloc (.cells ZV 59)).alloc (.cells ZW 60)).setRow w9.heap.size TB).setRow (w9.heap.size + 1) DB) (fun _ => False) [(w9.heap.size, .cells TB 59), (gk, .cells (keptV K) 56)]) := by
          have h1 := ((unhide O1).alloc (unhide TS) (.cells ZV 59)).alloc (unhide TS) (.cells ZW 60)
          rw [hsz] at h1
          have h2 := h1.row (unhide TS) w9.heap.size ZV 59 (0, 0) (by simp) TB
          have h3 := h2.row (unhide TS) (w9.heap.size + 1) ZW 60 (0, 0) (by simp) DB
          refine h3.less (unhide TS) (fun p hp => ?_)
          rcases List.mem_cons.1 hp with rfl | hp
          · simp
          · rcases List.mem_cons.1 hp with rfl | hp
            · have e1 : gk ≠ w9.heap.size := by omega
              have e2 : gk ≠ w9.heap.size + 1 := by omega
              simp [e1, e2]
            · cases hp
        have HSZ := hide hsz
        clear hsz hgk O1
        go_upto_region 30 with (first | (with_reducible refine wpList_allocZ (by with_unfolding_all rfl) 59 (by with_unfolding_all rfl) ZV (unhide Z1) ?_) | (with_reducible refine wpList_allocZ (by with_unfolding_all rfl) 60 (by with_unfolding_all rfl) ZW (unhide Z3) ?_) | (with_reducible refine wpList_store_row (by with_unfolding_all rfl) 59 _ _ (by with_unfolding_all rfl) w9.heap.size TB (by with_unfolding_all rfl) (by with_unfolding_all rfl) 59 ZV (unhide K17) s1 (unhide SZ1) (unhide X1) ?_) | (with_reducible refine wpList_store_row (by with_unfolding_all rfl) 60 _ _ (by with_unfolding_all rfl) (w9.heap.size + 1) DB (by with_unfolding_all rfl) (by with_unfolding_all rfl) 60 ZW (unhide K18) s3 (unhide SZ3) (unhide X3) ?_) | (with_reducible refine wpList_store_row (by with_unfolding_all rfl) 60 _ _ (by with_unfolding_all rfl) (w9.alloc (.cells ZV 59)).heap.size DB (by with_unfolding_all rfl) (by with_unfolding_all rfl) 60 ZW (unhide K18') s3 (unhide SZ3) (unhide X3) ?_))
        try rw [unhide HSZ]
        generalize (((w9.alloc (.cells ZV 59)).alloc (.cells ZW 60)).setRow w9.heap.size TB).setRow (w9.heap.size + 1) DB = w10 at *
        obtain ⟨g15, hg15⟩ : ∃ g15, g15 = w9.heap.size := ⟨_, rfl⟩
        rw [← hg15] at O2 ⊢
        clear hg15 K17 K18 K18' HSZ s1 X1 SZ1 s3 X3 SZ3 Z3
        go_wp2_with fail
        refine (unhide CM _ (unhide O2).st.rep).mono ?_
        rintro e w11 ⟨rfl, hb⟩
        have O3 := hide (((unhide O2).below (unhide TS) hb).alloc (unhide TS) (.cells TK 59))
        clear hb O2 CM
        go_upto_region 31 with (first | (with_reducible refine wpList_allocZ (by with_unfolding_all rfl) 59 (by with_unfolding_all rfl) ZV (unhide Z1) ?_) | (with_reducible refine wpList_store_row (by with_unfolding_all rfl) 59 _ _ (by with_unfolding_all rfl) w11.heap.size TK (by with_unfolding_all rfl) (by with_unfolding_all rfl) 59 ZV (heap_new w11 _) s2 (unhide SZ2) (unhide X2) ?_; rw [setRow_alloc]))
        obtain ⟨g17, hg17⟩ : ∃ g17, g17 = w11.heap.size := ⟨_, rfl⟩
        rw [← hg17] at O3 ⊢
        clear hg17 s2 X2 SZ2 Z1
        generalize w11.alloc (.cells TK 59) = w12 at *
        go_wp2_with fail
        go_loopw [19, 20, 21, 22, 23] (fun q _ _ _ _ wr => ∃ i : Nat, i ≤ 49 ∧ q = .int .i64 i ∧ Held W (SHas W m b (fun A w G => Has W w G m A) S0 A0) w4 wr (fun _ => False) [(g17, .cells TK 59), (g15, .cells TB 59), (gk, .cells (keptV K) 56)]) (fun q _ _ _ _ _ => 49 - (intOf q).toNat)
        case atStart => exact ⟨0, by omega, rfl, unhide O3⟩
        case round =>
          clear O3
          obtain ⟨i, hi, rfl, hh⟩ := hrel
          have HH := hide hh
          clear hh
          by_cases hl49 : i < 49
          · have hl49' : (i : Int) < 49 := by omega
            have hi0 : (0 : Int) ≤ (i : Int) := by omega
            have CBi := hide (unhide CB2 i hl49)
            have CKi := hide (unhide CK2 i hl49)
            have LBi := hide (unhide LB i hl49)
            have LK2 : Hid (mk = true → (S0.k i).k ≠ 0 → ∃ z : Nat, (S0.k i).l = (z : Int) ∧ z < 100 ∧ eqL (A0.hasZ (S0.k i).l) (K z) = true) := fun hm => unhide LK1 hm i hl49
            obtain ⟨kb, hkb⟩ : ∃ kb, kb = (S0.b i).k := ⟨_, rfl⟩
            obtain ⟨lb, hlb⟩ : ∃ lb, lb = (S0.b i).l := ⟨_, rfl⟩
            obtain ⟨kk, hkk⟩ : ∃ kk, kk = (S0.k i).k := ⟨_, rfl⟩
            obtain ⟨lk, hlk⟩ : ∃ lk, lk = (S0.k i).l := ⟨_, rfl⟩
            rw [← hkb, ← hlb] at CBi LBi
            rw [← hkk, ← hlk] at CKi LK2
            clear hkb hlb hkk hlk CB2 CK2 LB LK1
            obtain ⟨fB, hfB⟩ : ∃ fB, fB = A0.hasZ lb := ⟨_, rfl⟩
            obtain ⟨fK, hfK⟩ : ∃ fK, fK = A0.hasZ lk := ⟨_, rfl⟩
            have CL1 := hide (unhide CL _ _ lb (unhide HH).st)
            rw [← hfB] at LBi CL1
            rw [← hfK] at LK2
            have HFK : Hid (A0.hasZ lk = fK) := hfK.symm
            clear hfB hfK
            have c15l : wr.cell? ⟨g15, i * 3 + 2, none⟩ = some (.int .i64 lb) := by rw [cell_of_block ((unhide HH).at g15 (.cells TB 59) (by simp))]; exact (unhide CBi).2
            have s8 := s8_ln fB
            have X8 := hide (lnV_one fB)
            have SZ8 : Hid ((lnV fun _ => 0).size = (lnV fB).size) := by show _ = _; rw [lnV_size, lnV_size]
            have ZL : Hid ((Try.prog.info? 56).map (·.zero) = some (some (.agg (lnV fun _ => 0)))) := by show _ = _; kernel_rfl
            generalize (lnV fun _ => 0) = LZ at *
            obtain ⟨LBV, hLBV⟩ : ∃ LBV, LBV = lnV fB := ⟨_, rfl⟩
            rw [← hLBV] at CL1 s8 X8 SZ8
            have HLBV := hide hLBV
            clear hLBV
            generalize A0.loadE lb = E7 at *
            go_wp2_with fail
            refine (unhide CL1).mono ?_
            rintro e wa ⟨rfl, h1, h2⟩
            have O5 := hide (((unhide HH).call (St' := SHas W m b (fun A w G => Has W w G m A) S0 A0) h1 h2).alloc (unhide TS) (.cells LBV 56))
            clear h1 h2 CL1 c15l HH
            go_upto_region 37 with (first | (with_reducible refine wpList_allocZ (by with_unfolding_all rfl) 56 (by with_unfolding_all rfl) LZ (unhide ZL) ?_) | (with_reducible refine wpList_store_row (by with_unfolding_all rfl) 56 _ _ (by with_unfolding_all rfl) wa.heap.size LBV (by with_unfolding_all rfl) (by with_unfolding_all rfl) 56 LZ (heap_new wa _) s8 (unhide SZ8) (unhide X8) ?_; rw [setRow_alloc]))
            obtain ⟨g20, hg20⟩ : ∃ g20, g20 = wa.heap.size := ⟨_, rfl⟩
            rw [← hg20] at O5 ⊢
            clear hg20 s8 X8 SZ8 ZL
            generalize wa.alloc (.cells LBV 56) = wb at *
            have O6 := O5
            have c15k : wb.cell? ⟨g15, i * 3, none⟩ = some (.int .i64 kb) := by rw [cell_of_block ((unhide O5).at g15 (.cells TB 59) (by simp))]; exact (unhide CBi).1
            have KL := hide ((unhide O5).at g20 (.cells LBV 56) (by simp))
            rw [unhide HLBV] at KL
            have s8 := s8_ln fB
            clear O5
            by_cases hkb : kb = 0
            · subst hkb
              go_upto_region 39 with fail
              clear c15k KL s8 LBi CBi
              have CL2 := hide (unhide CL _ _ lk (unhide O6).st)
              have c17l : wb.cell? ⟨g17, i * 3 + 2, none⟩ = some (.int .i64 lk) := by rw [cell_of_block ((unhide O6).at g17 (.cells TK 59) (by simp))]; exact (unhide CKi).2
              have s8 := s8_ln fK
              have X8 := hide (lnV_one fK)
              have SZ8 : Hid ((lnV fun _ => 0).size = (lnV fK).size) := by show _ = _; rw [lnV_size, lnV_size]
              have ZL : Hid ((Try.prog.info? 56).map (·.zero) = some (some (.agg (lnV fun _ => 0)))) := by show _ = _; kernel_rfl
              rw [unhide HFK] at CL2
              have s8l : (Try.prog.info? 56).map (·.size) = some (lnV fK).toList.length := by rw [Array.length_toList]; exact s8_ln _
              generalize (lnV fun _ => 0) = LZ at *
              obtain ⟨LK, hLK⟩ : ∃ LK, LK = lnV fK := ⟨_, rfl⟩
              rw [← hLK] at CL2 s8 X8 SZ8 s8l
              have HLK := hide hLK
              clear hLK
              generalize A0.loadE lk = E8 at *
              go_wp2_with fail
              refine (unhide CL2).mono ?_
              rintro e wc ⟨rfl, h1, h2⟩
              have O7 := hide (((unhide O6).call (St' := SHas W m b (fun A w G => Has W w G m A) S0 A0) h1 h2).alloc (unhide TS) (.cells LK 56))
              clear h1 h2 CL2 c17l
              go_upto_region 40 with (first | (with_reducible refine wpList_allocZ (by with_unfolding_all rfl) 56 (by with_unfolding_all rfl) LZ (unhide ZL) ?_) | (with_reducible refine wpList_store_row (by with_unfolding_all rfl) 56 _ _ (by with_unfolding_all rfl) wc.heap.size LK (by with_unfolding_all rfl) (by with_unfolding_all rfl) 56 LZ (heap_new wc _) s8 (unhide SZ8) (unhide X8) ?_; rw [setRow_alloc]))
              obtain ⟨g22, hg22⟩ : ∃ g22, g22 = wc.heap.size := ⟨_, rfl⟩
              rw [← hg22] at O7 ⊢
              clear hg22
              generalize wc.alloc (.cells LK 56) = wd at *
              have O8 := hide ((unhide O7).drew (unhide TS))
              have c17k : wd.drew.cell? ⟨g17, i * 3, none⟩ = some (.int .i64 kk) := by rw [cell_of_block ((unhide O8).at g17 (.cells TK 59) (by simp))]; exact (unhide CKi).1
              have c17l : wd.drew.cell? ⟨g17, i * 3 + 2, none⟩ = some (.int .i64 lk) := by rw [cell_of_block ((unhide O8).at g17 (.cells TK 59) (by simp))]; exact (unhide CKi).2
              have r22 : wd.drew.rangeAt g22 0 LK.toList := fun q v hv => by
                rw [cell_of_block ((unhide O8).at g22 (.cells LK 56) (by simp)), Nat.zero_add, ← Array.getElem?_toList]; exact hv
              have bK := hide ((unhide O8).at gk (.cells (keptV K) 56) (by simp))
              rw [unhide HLK] at r22
              clear s8 X8 SZ8 ZL O7 s8l
              have s8l : (Try.prog.info? 56).map (·.size) = some (lnV fK).toList.length := by rw [Array.length_toList]; exact s8_ln _
              refine wp_region_noPanic ?_
              cases mk with
              | false =>
                refine wp_region_held_drew (S := fun _ => True) (by kernel_rfl) trivial (fun hHeld => ?_)
                generalize wd.drew = we at *
                refine take_at 0 158 (v := ?_) rfl rfl (by kernel_rfl) (by kernel_rfl) (by kernel_rfl) (Or.inl ⟨by rfl, ?_⟩) hHeld ?_
                rotate_left
                · intro w hSw; go_simp; with_reducible rfl
                simp only [Act.put, List.setIfInBounds_toArray, List.set_cons_zero, List.set_cons_succ]
                refine take_at 1 159 (v := ?_) rfl rfl (by kernel_rfl) (by kernel_rfl) (by kernel_rfl) (Or.inl ⟨by rfl, ?_⟩) hHeld ?_
                rotate_left
                · intro w hSw; go_simp; with_reducible rfl
                simp only [Act.put, List.setIfInBounds_toArray, List.set_cons_zero, List.set_cons_succ]
                refine take_at 2 160 rfl rfl (by kernel_rfl) (by kernel_rfl) (by kernel_rfl) (.inr ⟨by rfl, rfl⟩) hHeld ?_
                simp only [Act.put, List.setIfInBounds_toArray, List.set_cons_zero, List.set_cons_succ]
                refine take_at 3 161 rfl rfl (by kernel_rfl) (by kernel_rfl) (by kernel_rfl) (.inr ⟨by rfl, rfl⟩) hHeld ?_
                simp only [Act.put, List.setIfInBounds_toArray, List.set_cons_zero, List.set_cons_succ]
                refine take_at 4 162 rfl rfl (by kernel_rfl) (by kernel_rfl) (by kernel_rfl) (.inr ⟨by rfl, rfl⟩) hHeld ?_
                simp only [Act.put, List.setIfInBounds_toArray, List.set_cons_zero, List.set_cons_succ]
                refine take_at 5 163 rfl rfl (by kernel_rfl) (by kernel_rfl) (by kernel_rfl) (.inr ⟨by rfl, rfl⟩) hHeld ?_
                simp only [Act.put, List.setIfInBounds_toArray, List.set_cons_zero, List.set_cons_succ]
                refine take_at 6 164 rfl rfl (by kernel_rfl) (by kernel_rfl) (by kernel_rfl) (.inr ⟨by rfl, rfl⟩) hHeld ?_
                simp only [Act.put, List.setIfInBounds_toArray, List.set_cons_zero, List.set_cons_succ]
                refine take_at 7 165 (v := ?_) rfl rfl (by kernel_rfl) (by kernel_rfl) (by kernel_rfl) (Or.inl ⟨by rfl, ?_⟩) hHeld ?_
                rotate_left
                · intro w hSw; go_simp; with_reducible rfl
                simp only [Act.put, List.setIfInBounds_toArray, List.set_cons_zero, List.set_cons_succ]
                refine take_at 8 166 (v := ?_) rfl rfl (by kernel_rfl) (by kernel_rfl) (by kernel_rfl) (Or.inl ⟨by rfl, ?_⟩) hHeld ?_
                rotate_left
                · intro w hSw; go_simp; with_reducible rfl
                simp only [Act.put, List.setIfInBounds_toArray, List.set_cons_zero, List.set_cons_succ]
                refine take_at 9 167 rfl rfl (by kernel_rfl) (by kernel_rfl) (by kernel_rfl) (.inr ⟨by rfl, rfl⟩) hHeld ?_
                simp only [Act.put, List.setIfInBounds_toArray, List.set_cons_zero, List.set_cons_succ]
                refine take_at 10 168 rfl rfl (by kernel_rfl) (by kernel_rfl) (by kernel_rfl) (.inr ⟨by rfl, rfl⟩) hHeld ?_
                simp only [Act.put, List.setIfInBounds_toArray, List.set_cons_zero, List.set_cons_succ]
                refine take_at 11 169 rfl rfl (by kernel_rfl) (by kernel_rfl) (by kernel_rfl) (.inr ⟨by rfl, rfl⟩) hHeld ?_
                simp only [Act.put, List.setIfInBounds_toArray, List.set_cons_zero, List.set_cons_succ]
                refine take_at 12 170 rfl rfl (by kernel_rfl) (by kernel_rfl) (by kernel_rfl) (.inr ⟨by rfl, rfl⟩) hHeld ?_
                simp only [Act.put, List.setIfInBounds_toArray, List.set_cons_zero, List.set_cons_succ]
                refine take_at 13 171 rfl rfl (by kernel_rfl) (by kernel_rfl) (by kernel_rfl) (.inr ⟨by rfl, rfl⟩) hHeld ?_
                simp only [Act.put, List.setIfInBounds_toArray, List.set_cons_zero, List.set_cons_succ]
                refine take_at 14 172 rfl rfl (by kernel_rfl) (by kernel_rfl) (by kernel_rfl) (.inr ⟨by rfl, rfl⟩) hHeld ?_
                simp only [Act.put, List.setIfInBounds_toArray, List.set_cons_zero, List.set_cons_succ]
                refine take_at 15 173 rfl rfl (by kernel_rfl) (by kernel_rfl) (by kernel_rfl) (.inr ⟨by rfl, rfl⟩) hHeld ?_
                simp only [Act.put, List.setIfInBounds_toArray, List.set_cons_zero, List.set_cons_succ]
                refine take_at 16 174 rfl rfl (by kernel_rfl) (by kernel_rfl) (by kernel_rfl) (.inr ⟨by rfl, rfl⟩) hHeld ?_
                simp only [Act.put, List.setIfInBounds_toArray, List.set_cons_zero, List.set_cons_succ]
                refine take_at 17 175 rfl rfl (by kernel_rfl) (by kernel_rfl) (by kernel_rfl) (.inr ⟨by rfl, rfl⟩) hHeld ?_
                simp only [Act.put, List.setIfInBounds_toArray, List.set_cons_zero, List.set_cons_succ]
                refine take_at 18 176 (v := ?_) rfl rfl (by kernel_rfl) (by kernel_rfl) (by kernel_rfl) (Or.inl ⟨by rfl, ?_⟩) hHeld ?_
                rotate_left
                · intro w hSw; go_simp; with_reducible rfl
                simp only [Act.put, List.setIfInBounds_toArray, List.set_cons_zero, List.set_cons_succ]
                refine wpAnyH_done (by kernel_rfl) ?_ _
                refine NoPanic.normal ?_
                clear hHeld
                go_wp2_with fail
                go_roundw
                case rel => exact ⟨i + 1, by omega, by go_num, (unhide O8).less (unhide TS) (fun p hp => List.mem_cons_of_mem _ (List.mem_cons_of_mem _ hp))⟩
                case measure => simp [intOf]; omega
              | true =>
                by_cases hkk : kk = 0
                · refine wp_region_held_drew (S := fun w' => w'.cell? ⟨g17, i * 3, none⟩ = some (.int .i64 kk)) (by kernel_rfl) c17k (fun hHeld => ?_)
                  generalize wd.drew = we at *
                  subst hkk
                  refine take_at 0 158 (v := ?_) rfl rfl (by kernel_rfl) (by kernel_rfl) (by kernel_rfl) (Or.inl ⟨by rfl, ?_⟩) hHeld ?_
                  rotate_left
                  · intro w hSw; go_simp; with_reducible rfl
                  simp only [Act.put, List.setIfInBounds_toArray, List.set_cons_zero, List.set_cons_succ]
                  refine take_at 1 159 (v := ?_) rfl rfl (by kernel_rfl) (by kernel_rfl) (by kernel_rfl) (Or.inl ⟨by rfl, ?_⟩) hHeld ?_
                  rotate_left
                  · intro w hSw; go_simp; with_reducible rfl
                  simp only [Act.put, List.setIfInBounds_toArray, List.set_cons_zero, List.set_cons_succ]
                  refine take_at 2 160 (v := ?_) rfl rfl (by kernel_rfl) (by kernel_rfl) (by kernel_rfl) (Or.inl ⟨by rfl, ?_⟩) hHeld ?_
                  rotate_left
                  · intro w hSw; go_simp; with_reducible rfl
                  simp only [Act.put, List.setIfInBounds_toArray, List.set_cons_zero, List.set_cons_succ]
                  refine take_at 3 161 (v := .pointer (some ⟨g17, i * 3, none⟩)) rfl rfl (by kernel_rfl) (by kernel_rfl) (by kernel_rfl) (Or.inl ⟨by rfl, ?_⟩) hHeld ?_
                  · intro w hSw; first | (go_simp; done) | (go_simp; rfl)
                  simp only [Act.put, List.setIfInBounds_toArray, List.set_cons_zero, List.set_cons_succ]
                  refine take_at 4 162 (v := ?_) rfl rfl (by kernel_rfl) (by kernel_rfl) (by kernel_rfl) (Or.inl ⟨by rfl, ?_⟩) hHeld ?_
                  rotate_left
                  · intro w hSw; go_simp; with_reducible rfl
                  simp only [Act.put, List.setIfInBounds_toArray, List.set_cons_zero, List.set_cons_succ]
                  refine take_at 5 163 (v := ?_) rfl rfl (by kernel_rfl) (by kernel_rfl) (by kernel_rfl) (Or.inl ⟨by rfl, ?_⟩) hHeld ?_
                  rotate_left
                  · intro w hSw; go_simp; with_reducible rfl
                  simp only [Act.put, List.setIfInBounds_toArray, List.set_cons_zero, List.set_cons_succ]
                  refine take_at 6 164 (v := ?_) rfl rfl (by kernel_rfl) (by kernel_rfl) (by kernel_rfl) (Or.inl ⟨by rfl, ?_⟩) hHeld ?_
                  rotate_left
                  · intro w hSw; go_simp; with_reducible rfl
                  simp only [Act.put, List.setIfInBounds_toArray, List.set_cons_zero, List.set_cons_succ]
                  refine take_at 7 165 (v := ?_) rfl rfl (by kernel_rfl) (by kernel_rfl) (by kernel_rfl) (Or.inl ⟨by rfl, ?_⟩) hHeld ?_
                  rotate_left
                  · intro w hSw; go_simp; with_reducible rfl
                  simp only [Act.put, List.setIfInBounds_toArray, List.set_cons_zero, List.set_cons_succ]
                  refine take_at 8 166 (v := ?_) rfl rfl (by kernel_rfl) (by kernel_rfl) (by kernel_rfl) (Or.inl ⟨by rfl, ?_⟩) hHeld ?_
                  rotate_left
                  · intro w hSw; go_simp; with_reducible rfl
                  simp only [Act.put, List.setIfInBounds_toArray, List.set_cons_zero, List.set_cons_succ]
                  refine take_at 9 167 rfl rfl (by kernel_rfl) (by kernel_rfl) (by kernel_rfl) (.inr ⟨by rfl, rfl⟩) hHeld ?_
                  simp only [Act.put, List.setIfInBounds_toArray, List.set_cons_zero, List.set_cons_succ]
                  refine take_at 10 168 rfl rfl (by kernel_rfl) (by kernel_rfl) (by kernel_rfl) (.inr ⟨by rfl, rfl⟩) hHeld ?_
                  simp only [Act.put, List.setIfInBounds_toArray, List.set_cons_zero, List.set_cons_succ]
                  refine take_at 11 169 rfl rfl (by kernel_rfl) (by kernel_rfl) (by kernel_rfl) (.inr ⟨by rfl, rfl⟩) hHeld ?_
                  simp only [Act.put, List.setIfInBounds_toArray, List.set_cons_zero, List.set_cons_succ]
                  refine take_at 12 170 rfl rfl (by kernel_rfl) (by kernel_rfl) (by kernel_rfl) (.inr ⟨by rfl, rfl⟩) hHeld ?_
                  simp only [Act.put, List.setIfInBounds_toArray, List.set_cons_zero, List.set_cons_succ]
                  refine take_at 13 171 rfl rfl (by kernel_rfl) (by kernel_rfl) (by kernel_rfl) (.inr ⟨by rfl, rfl⟩) hHeld ?_
                  simp only [Act.put, List.setIfInBounds_toArray, List.set_cons_zero, List.set_cons_succ]
                  refine take_at 14 172 rfl rfl (by kernel_rfl) (by kernel_rfl) (by kernel_rfl) (.inr ⟨by rfl, rfl⟩) hHeld ?_
                  simp only [Act.put, List.setIfInBounds_toArray, List.set_cons_zero, List.set_cons_succ]
                  refine take_at 15 173 rfl rfl (by kernel_rfl) (by kernel_rfl) (by kernel_rfl) (.inr ⟨by rfl, rfl⟩) hHeld ?_
                  simp only [Act.put, List.setIfInBounds_toArray, List.set_cons_zero, List.set_cons_succ]
                  refine take_at 16 174 rfl rfl (by kernel_rfl) (by kernel_rfl) (by kernel_rfl) (.inr ⟨by rfl, rfl⟩) hHeld ?_
                  simp only [Act.put, List.setIfInBounds_toArray, List.set_cons_zero, List.set_cons_succ]
                  refine take_at 17 175 rfl rfl (by kernel_rfl) (by kernel_rfl) (by kernel_rfl) (.inr ⟨by rfl, rfl⟩) hHeld ?_
                  simp only [Act.put, List.setIfInBounds_toArray, List.set_cons_zero, List.set_cons_succ]
                  refine take_at 18 176 (v := ?_) rfl rfl (by kernel_rfl) (by kernel_rfl) (by kernel_rfl) (Or.inl ⟨by rfl, ?_⟩) hHeld ?_
                  rotate_left
                  · intro w hSw; go_simp; with_reducible rfl
                  simp only [Act.put, List.setIfInBounds_toArray, List.set_cons_zero, List.set_cons_succ]
                  refine wpAnyH_done (by kernel_rfl) ?_ _
                  refine NoPanic.normal ?_
                  clear hHeld
                  go_wp2_with fail
                  go_roundw
                  case rel => exact ⟨i + 1, by omega, by go_num, (unhide O8).less (unhide TS) (fun p hp => List.mem_cons_of_mem _ (List.mem_cons_of_mem _ hp))⟩
                  case measure => simp [intOf]; omega
                · obtain ⟨z, hz, hz1, HQ⟩ := unhide LK2 rfl hkk
                  rw [hz] at c17l
                  have hz' : (z : Int) < 100 := by omega
                  have rK := kept_range hz1 (unhide bK)
                  have HQ2 := hide HQ
                  have hkk1 : (kk != 0) = true := by simpa using hkk
                  have s8k : (Try.prog.info? 56).map (·.size) = some (lnV (K z)).toList.length := by rw [Array.length_toList]; exact s8_ln _
                  clear HQ hz
                  generalize K z = KZ at *
                  refine wp_region_held_drew (S := fun w' => w'.cell? ⟨g17, i * 3, none⟩ = some (.int .i64 kk) ∧ w'.cell? ⟨g17, i * 3 + 2, none⟩ = some (.int .i64 (z : Int)) ∧ w'.rangeAt g22 0 (lnV fK).toList ∧ w'.rangeAt gk (z * 8) (lnV KZ).toList) (by kernel_rfl) ⟨c17k, c17l, r22, rK⟩ (fun hHeld => ?_)
                  generalize wd.drew = we at *
                  clear c17k c17l r22 rK
                  refine take_at 0 158 (v := ?_) rfl rfl (by kernel_rfl) (by kernel_rfl) (by kernel_rfl) (Or.inl ⟨by rfl, ?_⟩) hHeld ?_
                  rotate_left
                  · intro w hSw; go_simp; with_reducible rfl
                  simp only [Act.put, List.setIfInBounds_toArray, List.set_cons_zero, List.set_cons_succ]
                  refine take_at 1 159 (v := ?_) rfl rfl (by kernel_rfl) (by kernel_rfl) (by kernel_rfl) (Or.inl ⟨by rfl, ?_⟩) hHeld ?_
                  rotate_left
                  · intro w hSw; go_simp; with_reducible rfl
                  simp only [Act.put, List.setIfInBounds_toArray, List.set_cons_zero, List.set_cons_succ]
                  refine take_at 2 160 (v := ?_) rfl rfl (by kernel_rfl) (by kernel_rfl) (by kernel_rfl) (Or.inl ⟨by rfl, ?_⟩) hHeld ?_
                  rotate_left
                  · intro w hSw; go_simp; with_reducible rfl
                  simp only [Act.put, List.setIfInBounds_toArray, List.set_cons_zero, List.set_cons_succ]
                  refine take_at 3 161 (v := .pointer (some ⟨g17, i * 3, none⟩)) rfl rfl (by kernel_rfl) (by kernel_rfl) (by kernel_rfl) (Or.inl ⟨by rfl, ?_⟩) hHeld ?_
                  · intro w hSw; first | (go_simp; done) | (go_simp; rfl)
                  simp only [Act.put, List.setIfInBounds_toArray, List.set_cons_zero, List.set_cons_succ]
                  refine take_at 4 162 (v := ?_) rfl rfl (by kernel_rfl) (by kernel_rfl) (by kernel_rfl) (Or.inl ⟨by rfl, ?_⟩) hHeld ?_
                  rotate_left
                  · intro w hSw; go_simp; with_reducible rfl
                  simp only [Act.put, List.setIfInBounds_toArray, List.set_cons_zero, List.set_cons_succ]
                  refine take_at 5 163 (v := ?_) rfl rfl (by kernel_rfl) (by kernel_rfl) (by kernel_rfl) (Or.inl ⟨by rfl, ?_⟩) hHeld ?_
                  rotate_left
                  · intro w hSw; obtain ⟨s1, s2, s3, s4⟩ := hSw; go_simp; with_reducible rfl
                  simp only [Act.put, List.setIfInBounds_toArray, List.set_cons_zero, List.set_cons_succ]
                  refine take_at 6 164 (v := ?_) rfl rfl (by kernel_rfl) (by kernel_rfl) (by kernel_rfl) (Or.inl ⟨by rfl, ?_⟩) hHeld ?_
                  rotate_left
                  · intro w hSw; go_simp; with_reducible rfl
                  simp only [Act.put, List.setIfInBounds_toArray, List.set_cons_zero, List.set_cons_succ]
                  refine take_at 7 165 (v := ?_) rfl rfl (by kernel_rfl) (by kernel_rfl) (by kernel_rfl) (Or.inl ⟨by rfl, ?_⟩) hHeld ?_
                  rotate_left
                  · intro w hSw; go_simp; with_reducible rfl
                  simp only [Act.put, List.setIfInBounds_toArray, List.set_cons_zero, List.set_cons_succ]
                  refine take_at 8 166 (v := ?_) rfl rfl (by kernel_rfl) (by kernel_rfl) (by kernel_rfl) (Or.inl ⟨by rfl, ?_⟩) hHeld ?_
                  rotate_left
                  · intro w hSw; go_simp; with_reducible rfl
                  simp only [Act.put, List.setIfInBounds_toArray, List.set_cons_zero, List.set_cons_succ]
                  refine take_at 9 167 rfl rfl (by kernel_rfl) (by kernel_rfl) (by kernel_rfl) (yieldsIf_load_mid (by rfl) 56 _ rfl g22 0 rfl (lnV fK).toList _ (fun w' h => h.2.2.1) Try.underlying56 rfl s8l) hHeld ?_
                  simp only [Act.put, List.setIfInBounds_toArray, List.set_cons_zero, List.set_cons_succ]
                  refine take_at 10 168 (v := ?_) rfl rfl (by kernel_rfl) (by kernel_rfl) (by kernel_rfl) (Or.inl ⟨by rfl, ?_⟩) hHeld ?_
                  rotate_left
                  · intro w hSw; go_simp; with_reducible rfl
                  simp only [Act.put, List.setIfInBounds_toArray, List.set_cons_zero, List.set_cons_succ]
                  refine take_at 11 169 (v := ?_) rfl rfl (by kernel_rfl) (by kernel_rfl) (by kernel_rfl) (Or.inl ⟨by rfl, ?_⟩) hHeld ?_
                  rotate_left
                  · intro w hSw; go_simp; with_reducible rfl
                  simp only [Act.put, List.setIfInBounds_toArray, List.set_cons_zero, List.set_cons_succ]
                  refine take_at 12 170 (v := .pointer (some ⟨g17, i * 3, none⟩)) rfl rfl (by kernel_rfl) (by kernel_rfl) (by kernel_rfl) (Or.inl ⟨by rfl, ?_⟩) hHeld ?_
                  · intro w hSw; first | (go_simp; done) | (go_simp; rfl)
                  simp only [Act.put, List.setIfInBounds_toArray, List.set_cons_zero, List.set_cons_succ]
                  refine take_at 13 171 (v := ?_) rfl rfl (by kernel_rfl) (by kernel_rfl) (by kernel_rfl) (Or.inl ⟨by rfl, ?_⟩) hHeld ?_
                  rotate_left
                  · intro w hSw; go_simp; with_reducible rfl
                  simp only [Act.put, List.setIfInBounds_toArray, List.set_cons_zero, List.set_cons_succ]
                  refine take_at 14 172 (v := ?_) rfl rfl (by kernel_rfl) (by kernel_rfl) (by kernel_rfl) (Or.inl ⟨by rfl, ?_⟩) hHeld ?_
                  rotate_left
                  · intro w hSw; obtain ⟨s1, s2, s3, s4⟩ := hSw; go_simp; with_reducible rfl
                  simp only [Act.put, List.setIfInBounds_toArray, List.set_cons_zero, List.set_cons_succ]
                  refine take_at 15 173 (v := .pointer (some ⟨gk, z * 8, none⟩)) rfl rfl (by kernel_rfl) (by kernel_rfl) (by kernel_rfl) (Or.inl ⟨by rfl, ?_⟩) hHeld ?_
                  · intro w hSw; first | (go_simp; done) | (go_simp; rfl)
                  simp only [Act.put, List.setIfInBounds_toArray, List.set_cons_zero, List.set_cons_succ]
                  refine take_at 16 174 rfl rfl (by kernel_rfl) (by kernel_rfl) (by kernel_rfl) (yieldsIf_load_mid (by rfl) 56 _ rfl gk (z * 8) rfl (lnV KZ).toList _ (fun w' h => h.2.2.2) Try.underlying56 rfl s8k) hHeld ?_
                  simp only [Act.put, List.setIfInBounds_toArray, List.set_cons_zero, List.set_cons_succ]
                  refine take_at 17 175 rfl rfl (by kernel_rfl) (by kernel_rfl) (by kernel_rfl) (yieldsIf_neqL (by rfl) (.tmp 167) (.tmp 174) rfl fK KZ rfl rfl) hHeld ?_
                  simp only [Act.put, List.setIfInBounds_toArray, List.set_cons_zero, List.set_cons_succ]
                  rw [unhide HQ2]
                  refine take_at 18 176 (v := ?_) rfl rfl (by kernel_rfl) (by kernel_rfl) (by kernel_rfl) (Or.inl ⟨by rfl, ?_⟩) hHeld ?_
                  rotate_left
                  · intro w hSw; go_simp; with_reducible rfl
                  simp only [Act.put, List.setIfInBounds_toArray, List.set_cons_zero, List.set_cons_succ]
                  refine wpAnyH_done (by kernel_rfl) ?_ _
                  refine NoPanic.normal ?_
                  clear hHeld
                  go_wp2_with fail
                  go_roundw
                  case rel => exact ⟨i + 1, by omega, by go_num, (unhide O8).less (unhide TS) (fun p hp => List.mem_cons_of_mem _ (List.mem_cons_of_mem _ hp))⟩
                  case measure => simp [intOf]; omega
            · have hkb1 : (kb != 0) = true := by simpa using hkb
              have HQ := hide (unhide LBi hkb)
              go_upto_region 39 with (first | (refine wpList_load_row_g (by rfl) 56 _ rfl g20 rfl _ _ _ _ (unhide KL) Try.underlying56 rfl s8 ?_) | (refine wpList_buildL (by rfl) _ rfl zeroL build_zl ?_) | (refine wpList_neq (by rfl) (.tmp 145) (.tmp 146) rfl fB zeroL rfl rfl ?_; rw [unhide HQ]))
              clear c15k KL s8 LBi CBi HQ hkb hkb1
              have CL2 := hide (unhide CL _ _ lk (unhide O6).st)
              have c17l : wb.cell? ⟨g17, i * 3 + 2, none⟩ = some (.int .i64 lk) := by rw [cell_of_block ((unhide O6).at g17 (.cells TK 59) (by simp))]; exact (unhide CKi).2
              have s8 := s8_ln fK
              have X8 := hide (lnV_one fK)
              have SZ8 : Hid ((lnV fun _ => 0).size = (lnV fK).size) := by show _ = _; rw [lnV_size, lnV_size]
              have ZL : Hid ((Try.prog.info? 56).map (·.zero) = some (some (.agg (lnV fun _ => 0)))) := by show _ = _; kernel_rfl
              rw [unhide HFK] at CL2
              have s8l : (Try.prog.info? 56).map (·.size) = some (lnV fK).toList.length := by rw [Array.length_toList]; exact s8_ln _
              generalize (lnV fun _ => 0) = LZ at *
              obtain ⟨LK, hLK⟩ : ∃ LK, LK = lnV fK := ⟨_, rfl⟩
              rw [← hLK] at CL2 s8 X8 SZ8 s8l
              have HLK := hide hLK
              clear hLK
              generalize A0.loadE lk = E8 at *
              go_wp2_with fail
              refine (unhide CL2).mono ?_
              rintro e wc ⟨rfl, h1, h2⟩
              have O7 := hide (((unhide O6).call (St' := SHas W m b (fun A w G => Has W w G m A) S0 A0) h1 h2).alloc (unhide TS) (.cells LK 56))
              clear h1 h2 CL2 c17l
              go_upto_region 40 with (first | (with_reducible refine wpList_allocZ (by with_unfolding_all rfl) 56 (by with_unfolding_all rfl) LZ (unhide ZL) ?_) | (with_reducible refine wpList_store_row (by with_unfolding_all rfl) 56 _ _ (by with_unfolding_all rfl) wc.heap.size LK (by with_unfolding_all rfl) (by with_unfolding_all rfl) 56 LZ (heap_new wc _) s8 (unhide SZ8) (unhide X8) ?_; rw [setRow_alloc]))
              obtain ⟨g22, hg22⟩ : ∃ g22, g22 = wc.heap.size := ⟨_, rfl⟩
              rw [← hg22] at O7 ⊢
              clear hg22
              generalize wc.alloc (.cells LK 56) = wd at *
              have O8 := hide ((unhide O7).drew (unhide TS))
              have c17k : wd.drew.cell? ⟨g17, i * 3, none⟩ = some (.int .i64 kk) := by rw [cell_of_block ((unhide O8).at g17 (.cells TK 59) (by simp))]; exact (unhide CKi).1
              have c17l : wd.drew.cell? ⟨g17, i * 3 + 2, none⟩ = some (.int .i64 lk) := by rw [cell_of_block ((unhide O8).at g17 (.cells TK 59) (by simp))]; exact (unhide CKi).2
              have r22 : wd.drew.rangeAt g22 0 LK.toList := fun q v hv => by
                rw [cell_of_block ((unhide O8).at g22 (.cells LK 56) (by simp)), Nat.zero_add, ← Array.getElem?_toList]; exact hv
              have bK := hide ((unhide O8).at gk (.cells (keptV K) 56) (by simp))
              rw [unhide HLK] at r22
              clear s8 X8 SZ8 ZL O7 s8l
              have s8l : (Try.prog.info? 56).map (·.size) = some (lnV fK).toList.length := by rw [Array.length_toList]; exact s8_ln _
              refine wp_region_noPanic ?_
              cases mk with
              | false =>
                refine wp_region_held_drew (S := fun _ => True) (by kernel_rfl) trivial (fun hHeld => ?_)
                generalize wd.drew = we at *
                refine take_at 0 158 (v := ?_) rfl rfl (by kernel_rfl) (by kernel_rfl) (by kernel_rfl) (Or.inl ⟨by rfl, ?_⟩) hHeld ?_
                rotate_left
                · intro w hSw; go_simp; with_reducible rfl
                simp only [Act.put, List.setIfInBounds_toArray, List.set_cons_zero, List.set_cons_succ]
                refine take_at 1 159 (v := ?_) rfl rfl (by kernel_rfl) (by kernel_rfl) (by kernel_rfl) (Or.inl ⟨by rfl, ?_⟩) hHeld ?_
                rotate_left
                · intro w hSw; go_simp; with_reducible rfl
                simp only [Act.put, List.setIfInBounds_toArray, List.set_cons_zero, List.set_cons_succ]
                refine take_at 2 160 rfl rfl (by kernel_rfl) (by kernel_rfl) (by kernel_rfl) (.inr ⟨by rfl, rfl⟩) hHeld ?_
                simp only [Act.put, List.setIfInBounds_toArray, List.set_cons_zero, List.set_cons_succ]
                refine take_at 3 161 rfl rfl (by kernel_rfl) (by kernel_rfl) (by kernel_rfl) (.inr ⟨by rfl, rfl⟩) hHeld ?_
                simp only [Act.put, List.setIfInBounds_toArray, List.set_cons_zero, List.set_cons_succ]
                refine take_at 4 162 rfl rfl (by kernel_rfl) (by kernel_rfl) (by kernel_rfl) (.inr ⟨by rfl, rfl⟩) hHeld ?_
                simp only [Act.put, List.setIfInBounds_toArray, List.set_cons_zero, List.set_cons_succ]
                refine take_at 5 163 rfl rfl (by kernel_rfl) (by kernel_rfl) (by kernel_rfl) (.inr ⟨by rfl, rfl⟩) hHeld ?_
                simp only [Act.put, List.setIfInBounds_toArray, List.set_cons_zero, List.set_cons_succ]
                refine take_at 6 164 rfl rfl (by kernel_rfl) (by kernel_rfl) (by kernel_rfl) (.inr ⟨by rfl, rfl⟩) hHeld ?_
                simp only [Act.put, List.setIfInBounds_toArray, List.set_cons_zero, List.set_cons_succ]
                refine take_at 7 165 (v := ?_) rfl rfl (by kernel_rfl) (by kernel_rfl) (by kernel_rfl) (Or.inl ⟨by rfl, ?_⟩) hHeld ?_
                rotate_left
                · intro w hSw; go_simp; with_reducible rfl
                simp only [Act.put, List.setIfInBounds_toArray, List.set_cons_zero, List.set_cons_succ]
                refine take_at 8 166 (v := ?_) rfl rfl (by kernel_rfl) (by kernel_rfl) (by kernel_rfl) (Or.inl ⟨by rfl, ?_⟩) hHeld ?_
                rotate_left
                · intro w hSw; go_simp; with_reducible rfl
                simp only [Act.put, List.setIfInBounds_toArray, List.set_cons_zero, List.set_cons_succ]
                refine take_at 9 167 rfl rfl (by kernel_rfl) (by kernel_rfl) (by kernel_rfl) (.inr ⟨by rfl, rfl⟩) hHeld ?_
                simp only [Act.put, List.setIfInBounds_toArray, List.set_cons_zero, List.set_cons_succ]
                refine take_at 10 168 rfl rfl (by kernel_rfl) (by kernel_rfl) (by kernel_rfl) (.inr ⟨by rfl, rfl⟩) hHeld ?_
                simp only [Act.put, List.setIfInBounds_toArray, List.set_cons_zero, List.set_cons_succ]
                refine take_at 11 169 rfl rfl (by kernel_rfl) (by kernel_rfl) (by kernel_rfl) (.inr ⟨by rfl, rfl⟩) hHeld ?_
                simp only [Act.put, List.setIfInBounds_toArray, List.set_cons_zero, List.set_cons_succ]
                refine take_at 12 170 rfl rfl (by kernel_rfl) (by kernel_rfl) (by kernel_rfl) (.inr ⟨by rfl, rfl⟩) hHeld ?_
                simp only [Act.put, List.setIfInBounds_toArray, List.set_cons_zero, List.set_cons_succ]
                refine take_at 13 171 rfl rfl (by kernel_rfl) (by kernel_rfl) (by kernel_rfl) (.inr ⟨by rfl, rfl⟩) hHeld ?_
                simp only [Act.put, List.setIfInBounds_toArray, List.set_cons_zero, List.set_cons_succ]
                refine take_at 14 172 rfl rfl (by kernel_rfl) (by kernel_rfl) (by kernel_rfl) (.inr ⟨by rfl, rfl⟩) hHeld ?_
                simp only [Act.put, List.setIfInBounds_toArray, List.set_cons_zero, List.set_cons_succ]
                refine take_at 15 173 rfl rfl (by kernel_rfl) (by kernel_rfl) (by kernel_rfl) (.inr ⟨by rfl, rfl⟩) hHeld ?_
                simp only [Act.put, List.setIfInBounds_toArray, List.set_cons_zero, List.set_cons_succ]
                refine take_at 16 174 rfl rfl (by kernel_rfl) (by kernel_rfl) (by kernel_rfl) (.inr ⟨by rfl, rfl⟩) hHeld ?_
                simp only [Act.put, List.setIfInBounds_toArray, List.set_cons_zero, List.set_cons_succ]
                refine take_at 17 175 rfl rfl (by kernel_rfl) (by kernel_rfl) (by kernel_rfl) (.inr ⟨by rfl, rfl⟩) hHeld ?_
                simp only [Act.put, List.setIfInBounds_toArray, List.set_cons_zero, List.set_cons_succ]
                refine take_at 18 176 (v := ?_) rfl rfl (by kernel_rfl) (by kernel_rfl) (by kernel_rfl) (Or.inl ⟨by rfl, ?_⟩) hHeld ?_
                rotate_left
                · intro w hSw; go_simp; with_reducible rfl
                simp only [Act.put, List.setIfInBounds_toArray, List.set_cons_zero, List.set_cons_succ]
                refine wpAnyH_done (by kernel_rfl) ?_ _
                refine NoPanic.normal ?_
                clear hHeld
                go_wp2_with fail
                go_roundw
                case rel => exact ⟨i + 1, by omega, by go_num, (unhide O8).less (unhide TS) (fun p hp => List.mem_cons_of_mem _ (List.mem_cons_of_mem _ hp))⟩
                case measure => simp [intOf]; omega
              | true =>
                by_cases hkk : kk = 0
                · refine wp_region_held_drew (S := fun w' => w'.cell? ⟨g17, i * 3, none⟩ = some (.int .i64 kk)) (by kernel_rfl) c17k (fun hHeld => ?_)
                  generalize wd.drew = we at *
                  subst hkk
                  refine take_at 0 158 (v := ?_) rfl rfl (by kernel_rfl) (by kernel_rfl) (by kernel_rfl) (Or.inl ⟨by rfl, ?_⟩) hHeld ?_
                  rotate_left
                  · intro w hSw; go_simp; with_reducible rfl
                  simp only [Act.put, List.setIfInBounds_toArray, List.set_cons_zero, List.set_cons_succ]
                  refine take_at 1 159 (v := ?_) rfl rfl (by kernel_rfl) (by kernel_rfl) (by kernel_rfl) (Or.inl ⟨by rfl, ?_⟩) hHeld ?_
                  rotate_left
                  · intro w hSw; go_simp; with_reducible rfl
                  simp only [Act.put, List.setIfInBounds_toArray, List.set_cons_zero, List.set_cons_succ]
                  refine take_at 2 160 (v := ?_) rfl rfl (by kernel_rfl) (by kernel_rfl) (by kernel_rfl) (Or.inl ⟨by rfl, ?_⟩) hHeld ?_
                  rotate_left
                  · intro w hSw; go_simp; with_reducible rfl
                  simp only [Act.put, List.setIfInBounds_toArray, List.set_cons_zero, List.set_cons_succ]
                  refine take_at 3 161 (v := .pointer (some ⟨g17, i * 3, none⟩)) rfl rfl (by kernel_rfl) (by kernel_rfl) (by kernel_rfl) (Or.inl ⟨by rfl, ?_⟩) hHeld ?_
                  · intro w hSw; first | (go_simp; done) | (go_simp; rfl)
                  simp only [Act.put, List.setIfInBounds_toArray, List.set_cons_zero, List.set_cons_succ]
                  refine take_at 4 162 (v := ?_) rfl rfl (by kernel_rfl) (by kernel_rfl) (by kernel_rfl) (Or.inl ⟨by rfl, ?_⟩) hHeld ?_
                  rotate_left
                  · intro w hSw; go_simp; with_reducible rfl
                  simp only [Act.put, List.setIfInBounds_toArray, List.set_cons_zero, List.set_cons_succ]
                  refine take_at 5 163 (v := ?_) rfl rfl (by kernel_rfl) (by kernel_rfl) (by kernel_rfl) (Or.inl ⟨by rfl, ?_⟩) hHeld ?_
                  rotate_left
                  · intro w hSw; go_simp; with_reducible rfl
                  simp only [Act.put, List.setIfInBounds_toArray, List.set_cons_zero, List.set_cons_succ]
                  refine take_at 6 164 (v := ?_) rfl rfl (by kernel_rfl) (by kernel_rfl) (by kernel_rfl) (Or.inl ⟨by rfl, ?_⟩) hHeld ?_
                  rotate_left
                  · intro w hSw; go_simp; with_reducible rfl
                  simp only [Act.put, List.setIfInBounds_toArray, List.set_cons_zero, List.set_cons_succ]
                  refine take_at 7 165 (v := ?_) rfl rfl (by kernel_rfl) (by kernel_rfl) (by kernel_rfl) (Or.inl ⟨by rfl, ?_⟩) hHeld ?_
                  rotate_left
                  · intro w hSw; go_simp; with_reducible rfl
                  simp only [Act.put, List.setIfInBounds_toArray, List.set_cons_zero, List.set_cons_succ]
                  refine take_at 8 166 (v := ?_) rfl rfl (by kernel_rfl) (by kernel_rfl) (by kernel_rfl) (Or.inl ⟨by rfl, ?_⟩) hHeld ?_
                  rotate_left
                  · intro w hSw; go_simp; with_reducible rfl
                  simp only [Act.put, List.setIfInBounds_toArray, List.set_cons_zero, List.set_cons_succ]
                  refine take_at 9 167 rfl rfl (by kernel_rfl) (by kernel_rfl) (by kernel_rfl) (.inr ⟨by rfl, rfl⟩) hHeld ?_
                  simp only [Act.put, List.setIfInBounds_toArray, List.set_cons_zero, List.set_cons_succ]
                  refine take_at 10 168 rfl rfl (by kernel_rfl) (by kernel_rfl) (by kernel_rfl) (.inr ⟨by rfl, rfl⟩) hHeld ?_
                  simp only [Act.put, List.setIfInBounds_toArray, List.set_cons_zero, List.set_cons_succ]
                  refine take_at 11 169 rfl rfl (by kernel_rfl) (by kernel_rfl) (by kernel_rfl) (.inr ⟨by rfl, rfl⟩) hHeld ?_
                  simp only [Act.put, List.setIfInBounds_toArray, List.set_cons_zero, List.set_cons_succ]
                  refine take_at 12 170 rfl rfl (by kernel_rfl) (by kernel_rfl) (by kernel_rfl) (.inr ⟨by rfl, rfl⟩) hHeld ?_
                  simp only [Act.put, List.setIfInBounds_toArray, List.set_cons_zero, List.set_cons_succ]
                  refine take_at 13 171 rfl rfl (by kernel_rfl) (by kernel_rfl) (by kernel_rfl) (.inr ⟨by rfl, rfl⟩) hHeld ?_
                  simp only [Act.put, List.setIfInBounds_toArray, List.set_cons_zero, List.set_cons_succ]
                  refine take_at 14 172 rfl rfl (by kernel_rfl) (by kernel_rfl) (by kernel_rfl) (.inr ⟨by rfl, rfl⟩) hHeld ?_
                  simp only [Act.put, List.setIfInBounds_toArray, List.set_cons_zero, List.set_cons_succ]
                  refine take_at 15 173 rfl rfl (by kernel_rfl) (by kernel_rfl) (by kernel_rfl) (.inr ⟨by rfl, rfl⟩) hHeld ?_
                  simp only [Act.put, List.setIfInBounds_toArray, List.set_cons_zero, List.set_cons_succ]
                  refine take_at 16 174 rfl rfl (by kernel_rfl) (by kernel_rfl) (by kernel_rfl) (.inr ⟨by rfl, rfl⟩) hHeld ?_
                  simp only [Act.put, List.setIfInBounds_toArray, List.set_cons_zero, List.set_cons_succ]
                  refine take_at 17 175 rfl rfl (by kernel_rfl) (by kernel_rfl) (by kernel_rfl) (.inr ⟨by rfl, rfl⟩) hHeld ?_
                  simp only [Act.put, List.setIfInBounds_toArray, List.set_cons_zero, List.set_cons_succ]
                  refine take_at 18 176 (v := ?_) rfl rfl (by kernel_rfl) (by kernel_rfl) (by kernel_rfl) (Or.inl ⟨by rfl, ?_⟩) hHeld ?_
                  rotate_left
                  · intro w hSw; go_simp; with_reducible rfl
                  simp only [Act.put, List.setIfInBounds_toArray, List.set_cons_zero, List.set_cons_succ]
                  refine wpAnyH_done (by kernel_rfl) ?_ _
                  refine NoPanic.normal ?_
                  clear hHeld
                  go_wp2_with fail
                  go_roundw
                  case rel => exact ⟨i + 1, by omega, by go_num, (unhide O8).less (unhide TS) (fun p hp => List.mem_cons_of_mem _ (List.mem_cons_of_mem _ hp))⟩
                  case measure => simp [intOf]; omega
                · obtain ⟨z, hz, hz1, HQ⟩ := unhide LK2 rfl hkk
                  rw [hz] at c17l
                  have hz' : (z : Int) < 100 := by omega
                  have rK := kept_range hz1 (unhide bK)
                  have HQ2 := hide HQ
                  have hkk1 : (kk != 0) = true := by simpa using hkk
                  have s8k : (Try.prog.info? 56).map (·.size) = some (lnV (K z)).toList.length := by rw [Array.length_toList]; exact s8_ln _
                  clear HQ hz
                  generalize K z = KZ at *
                  refine wp_region_held_drew (S := fun w' => w'.cell? ⟨g17, i * 3, none⟩ = some (.int .i64 kk) ∧ w'.cell? ⟨g17, i * 3 + 2, none⟩ = some (.int .i64 (z : Int)) ∧ w'.rangeAt g22 0 (lnV fK).toList ∧ w'.rangeAt gk (z * 8) (lnV KZ).toList) (by kernel_rfl) ⟨c17k, c17l, r22, rK⟩ (fun hHeld => ?_)
                  generalize wd.drew = we at *
                  clear c17k c17l r22 rK
                  refine take_at 0 158 (v := ?_) rfl rfl (by kernel_rfl) (by kernel_rfl) (by kernel_rfl) (Or.inl ⟨by rfl, ?_⟩) hHeld ?_
                  rotate_left
                  · intro w hSw; go_simp; with_reducible rfl
                  simp only [Act.put, List.setIfInBounds_toArray, List.set_cons_zero, List.set_cons_succ]
                  refine take_at 1 159 (v := ?_) rfl rfl (by kernel_rfl) (by kernel_rfl) (by kernel_rfl) (Or.inl ⟨by rfl, ?_⟩) hHeld ?_
                  rotate_left
                  · intro w hSw; go_simp; with_reducible rfl
                  simp only [Act.put, List.setIfInBounds_toArray, List.set_cons_zero, List.set_cons_succ]
                  refine take_at 2 160 (v := ?_) rfl rfl (by kernel_rfl) (by kernel_rfl) (by kernel_rfl) (Or.inl ⟨by rfl, ?_⟩) hHeld ?_
                  rotate_left
                  · intro w hSw; go_simp; with_reducible rfl
                  simp only [Act.put, List.setIfInBounds_toArray, List.set_cons_zero, List.set_cons_succ]
                  refine take_at 3 161 (v := .pointer (some ⟨g17, i * 3, none⟩)) rfl rfl (by kernel_rfl) (by kernel_rfl) (by kernel_rfl) (Or.inl ⟨by rfl, ?_⟩) hHeld ?_
                  · intro w hSw; first | (go_simp; done) | (go_simp; rfl)
                  simp only [Act.put, List.setIfInBounds_toArray, List.set_cons_zero, List.set_cons_succ]
                  refine take_at 4 162 (v := ?_) rfl rfl (by kernel_rfl) (by kernel_rfl) (by kernel_rfl) (Or.inl ⟨by rfl, ?_⟩) hHeld ?_
                  rotate_left
                  · intro w hSw; go_simp; with_reducible rfl
                  simp only [Act.put, List.setIfInBounds_toArray, List.set_cons_zero, List.set_cons_succ]
                  refine take_at 5 163 (v := ?_) rfl rfl (by kernel_rfl) (by kernel_rfl) (by kernel_rfl) (Or.inl ⟨by rfl, ?_⟩) hHeld ?_
                  rotate_left
                  · intro w hSw; obtain ⟨s1, s2, s3, s4⟩ := hSw; go_simp; with_reducible rfl
                  simp only [Act.put, List.setIfInBounds_toArray, List.set_cons_zero, List.set_cons_succ]
                  refine take_at 6 164 (v := ?_) rfl rfl (by kernel_rfl) (by kernel_rfl) (by kernel_rfl) (Or.inl ⟨by rfl, ?_⟩) hHeld ?_
                  rotate_left
                  · intro w hSw; go_simp; with_reducible rfl
                  simp only [Act.put, List.setIfInBounds_toArray, List.set_cons_zero, List.set_cons_succ]
                  refine take_at 7 165 (v := ?_) rfl rfl (by kernel_rfl) (by kernel_rfl) (by kernel_rfl) (Or.inl ⟨by rfl, ?_⟩) hHeld ?_
                  rotate_left
                  · intro w hSw; go_simp; with_reducible rfl
                  simp only [Act.put, List.setIfInBounds_toArray, List.set_cons_zero, List.set_cons_succ]
                  refine take_at 8 166 (v := ?_) rfl rfl (by kernel_rfl) (by kernel_rfl) (by kernel_rfl) (Or.inl ⟨by rfl, ?_⟩) hHeld ?_
                  rotate_left
                  · intro w hSw; go_simp; with_reducible rfl
                  simp only [Act.put, List.setIfInBounds_toArray, List.set_cons_zero, List.set_cons_succ]
                  refine take_at 9 167 rfl rfl (by kernel_rfl) (by kernel_rfl) (by kernel_rfl) (yieldsIf_load_mid (by rfl) 56 _ rfl g22 0 rfl (lnV fK).toList _ (fun w' h => h.2.2.1) Try.underlying56 rfl s8l) hHeld ?_
                  simp only [Act.put, List.setIfInBounds_toArray, List.set_cons_zero, List.set_cons_succ]
                  refine take_at 10 168 (v := ?_) rfl rfl (by kernel_rfl) (by kernel_rfl) (by kernel_rfl) (Or.inl ⟨by rfl, ?_⟩) hHeld ?_
                  rotate_left
                  · intro w hSw; go_simp; with_reducible rfl
                  simp only [Act.put, List.setIfInBounds_toArray, List.set_cons_zero, List.set_cons_succ]
                  refine take_at 11 169 (v := ?_) rfl rfl (by kernel_rfl) (by kernel_rfl) (by kernel_rfl) (Or.inl ⟨by rfl, ?_⟩) hHeld ?_
                  rotate_left
                  · intro w hSw; go_simp; with_reducible rfl
                  simp only [Act.put, List.setIfInBounds_toArray, List.set_cons_zero, List.set_cons_succ]
                  refine take_at 12 170 (v := .pointer (some ⟨g17, i * 3, none⟩)) rfl rfl (by kernel_rfl) (by kernel_rfl) (by kernel_rfl) (Or.inl ⟨by rfl, ?_⟩) hHeld ?_
                  · intro w hSw; first | (go_simp; done) | (go_simp; rfl)
                  simp only [Act.put, List.setIfInBounds_toArray, List.set_cons_zero, List.set_cons_succ]
                  refine take_at 13 171 (v := ?_) rfl rfl (by kernel_rfl) (by kernel_rfl) (by kernel_rfl) (Or.inl ⟨by rfl, ?_⟩) hHeld ?_
                  rotate_left
                  · intro w hSw; go_simp; with_reducible rfl
                  simp only [Act.put, List.setIfInBounds_toArray, List.set_cons_zero, List.set_cons_succ]
                  refine take_at 14 172 (v := ?_) rfl rfl (by kernel_rfl) (by kernel_rfl) (by kernel_rfl) (Or.inl ⟨by rfl, ?_⟩) hHeld ?_
                  rotate_left
                  · intro w hSw; obtain ⟨s1, s2, s3, s4⟩ := hSw; go_simp; with_reducible rfl
                  simp only [Act.put, List.setIfInBounds_toArray, List.set_cons_zero, List.set_cons_succ]
                  refine take_at 15 173 (v := .pointer (some ⟨gk, z * 8, none⟩)) rfl rfl (by kernel_rfl) (by kernel_rfl) (by kernel_rfl) (Or.inl ⟨by rfl, ?_⟩) hHeld ?_
                  · intro w hSw; first | (go_simp; done) | (go_simp; rfl)
                  simp only [Act.put, List.setIfInBounds_toArray, List.set_cons_zero, List.set_cons_succ]
                  refine take_at 16 174 rfl rfl (by kernel_rfl) (by kernel_rfl) (by kernel_rfl) (yieldsIf_load_mid (by rfl) 56 _ rfl gk (z * 8) rfl (lnV KZ).toList _ (fun w' h => h.2.2.2) Try.underlying56 rfl s8k) hHeld ?_
                  simp only [Act.put, List.setIfInBounds_toArray, List.set_cons_zero, List.set_cons_succ]
                  refine take_at 17 175 rfl rfl (by kernel_rfl) (by kernel_rfl) (by kernel_rfl) (yieldsIf_neqL (by rfl) (.tmp 167) (.tmp 174) rfl fK KZ rfl rfl) hHeld ?_
                  simp only [Act.put, List.setIfInBounds_toArray, List.set_cons_zero, List.set_cons_succ]
                  rw [unhide HQ2]
                  refine take_at 18 176 (v := ?_) rfl rfl (by kernel_rfl) (by kernel_rfl) (by kernel_rfl) (Or.inl ⟨by rfl, ?_⟩) hHeld ?_
                  rotate_left
                  · intro w hSw; go_simp; with_reducible rfl
                  simp only [Act.put, List.setIfInBounds_toArray, List.set_cons_zero, List.set_cons_succ]
                  refine wpAnyH_done (by kernel_rfl) ?_ _
                  refine NoPanic.normal ?_
                  clear hHeld
                  go_wp2_with fail
                  go_roundw
                  case rel => exact ⟨i + 1, by omega, by go_num, (unhide O8).less (unhide TS) (fun p hp => List.mem_cons_of_mem _ (List.mem_cons_of_mem _ hp))⟩
                  case measure => simp [intOf]; omega
          · have hg49 : ¬ ((i : Int) < 49) := by omega
            have HKK : Hid (Keeps (fun _ => False) W wr) := (unhide TS).sz _ _ (unhide HH).1
            go_wp2_with fail
            go_ret
            exact ⟨rfl, (unhide HKK).below (Nat.le_refl _) (fun _ h => h.elim)⟩
      · go_upto_region 29 with fail
        have TS := hide (SHas.stay (unhide M) b S0 A0)
        have HN : Hid (A0.n ≤ 1024) := by show _ ≤ _; rw [(unhide KI0).n]; decide
        have CB := hide (base_obj (S := S0) (unhide HH).st.rep)
        have CM : Hid (∀ w', SRep m S0 w' b → Calls Try.prog 23 #[.pointer (some ⟨b, 0, none⟩)] w' fun e w2 => e = .returned (.tuple #[.agg (tabV S0.k), .bool mk]) ∧ Below w'.heap.size w' w2) := fun w' h => by
          have := marked_obj h
          rw [(unhide KI0).is] at this; exact this
        have CL : Hid (∀ w' G z, SHas W m b (fun A w G => Has W w G m A) S0 A0 w' G → Calls Try.prog 21 #[.pointer (some ⟨m, 0, none⟩), .int .i64 z] w' (Done (SHas W m b (fun A w G => Has W w G m A) S0 A0) w' G (.tuple #[.agg (lnV (A0.hasZ z)), .int .i64 (A0.loadE z)]))) := fun w' G z h => h.load (unhide M) (unhide HN) z
        have LB := hide (fun i hi hk => (unhide KI0).lineB i hi hk)
        have LK1 : Hid (mk = true → ∀ i, i < 49 → (S0.k i).k ≠ 0 → ∃ z : Nat, (S0.k i).l = (z : Int) ∧ z < 100 ∧ eqL (A0.hasZ (S0.k i).l) (K z) = true) := by
          show mk = true → _
          have q := unhide KI0
          intro hm
          rw [hm] at q
          exact q.lineK
        have s1 := s147_tab S0.b
        have s2 := s147_tab S0.k
        have s3 := s8_dir S0.d
        have X1 := hide (tabV_one S0.b)
        have X2 := hide (tabV_one S0.k)
        have X3 := hide (dirV_one S0.d)
        have Z1 := hide zero_tab
        have Z3 := hide zero_dir
        have SZ1 : Hid ((tabV fun _ => ze).size = (tabV S0.b).size) := by show _ = _; rw [tabV_size, tabV_size]
        have SZ2 : Hid ((tabV fun _ => ze).size = (tabV S0.k).size) := by show _ = _; rw [tabV_size, tabV_size]
        have SZ3 : Hid ((dirV fun _ => 0).size = (dirV S0.d).size) := by show _ = _; rw [dirV_size, dirV_size]
        generalize (tabV fun _ => ze) = ZV at *
        generalize (dirV fun _ => 0) = ZW at *
        have CB2 : Hid (∀ i, i < 49 → (tabV S0.b)[i * 3]? = some (.int .i64 (S0.b i).k) ∧ (tabV S0.b)[i * 3 + 2]? = some (.int .i64 (S0.b i).l)) := fun i hi => ⟨by rw [tabV_cell _ _ (by omega), fl3_0], by rw [tabV_cell _ _ (by omega), fl3_2]⟩
        have CK2 : Hid (∀ i, i < 49 → (tabV S0.k)[i * 3]? = some (.int .i64 (S0.k i).k) ∧ (tabV S0.k)[i * 3 + 2]? = some (.int .i64 (S0.k i).l)) := fun i hi => ⟨by rw [tabV_cell _ _ (by omega), fl3_0], by rw [tabV_cell _ _ (by omega), fl3_2]⟩
        generalize tabV S0.b = TB at *
        generalize tabV S0.k = TK at *
        generalize dirV S0.d = DB at *
        have hmk : (mk != mk) = false := by simp
        clear KI0 AO HO HJ CK80 HN
        generalize (j : Int) = last at *
        go_wp2_with fail
        refine (unhide CB).mono ?_
        rintro e w9 ⟨rfl, hb⟩
        have O1 := hide ((unhide HH).below (unhide TS) hb)
        have hgk := (unhide O1).lt (gk, .cells (keptV K) 56) (by simp)
        have hsz : (w9.alloc (.cells ZV 59)).heap.size = w9.heap.size + 1 := by simp
        clear hb HH CB
        have K17 : Hid (((w9.alloc (.cells ZV 59)).alloc (.cells ZW 60)).heap[w9.heap.size]? = some (.cells ZV 59 (0, 0))) := (heap2 w9 _ _).1
        have K18 : Hid ((((w9.alloc (.cells ZV 59)).alloc (.cells ZW 60)).setRow w9.heap.size TB).heap[w9.heap.size + 1]? = some (.cells ZW 60 (0, 0))) := (setRow_other _ _ _ _ (by omega)).trans (heap2 w9 _ _).2
        have K18' : Hid ((((w9.alloc (.cells ZV 59)).alloc (.cells ZW 60)).setRow w9.heap.size TB).heap[(w9.alloc (.cells ZV 59)).heap.size]? = some (.cells ZW 60 (0, 0))) := by show _ = _; rw [hsz]; exact unhide K18
        have O2 : Hid (Held W (SHas W m b (fun A w G => Has W w G m A) S0 A0) w4 ((((w9.alloc (.cells ZV 59)).alloc (.cells ZW 60)).setRow w9.heap.size TB).setRow (w9.heap.size + 1) DB) (fun _ => False) [(w9.heap.size, .cells TB 59), (gk, .cells (keptV K) 56)]) := by
          have h1 := ((unhide O1).alloc (unhide TS) (.cells ZV 59)).alloc (unhide TS) (.cells ZW 60)
          rw [hsz] at h1
          have h2 := h1.row (unhide TS) w9.heap.size ZV 59 (0, 0) (by simp) TB
          have h3 := h2.row (unhide TS) (w9.heap.size + 1) ZW 60 (0, 0) (by simp) DB
          refine h3.less (unhide TS) (fun p hp => ?_)
          rcases List.mem_cons.1 hp with rfl | hp
          · simp
          · rcases List.mem_cons.1 hp with rfl | hp
            · have e1 : gk ≠ w9.heap.size := by omega
              have e2 : gk ≠ w9.heap.size + 1 := by omega
              simp [e1, e2]
            · cases hp
        have HSZ := hide hsz
        clear hsz hgk O1
        go_upto_region 30 with (first | (with_reducible refine wpList_allocZ (by with_unfolding_all rfl) 59 (by with_unfolding_all rfl) ZV (unhide Z1) ?_) | (with_reducible refine wpList_allocZ (by with_unfolding_all rfl) 60 (by with_unfolding_all rfl) ZW (unhide Z3) ?_) | (with_reducible refine wpList_store_row (by with_unfolding_all rfl) 59 _ _ (by with_unfolding_all rfl) w9.heap.size TB (by with_unfolding_all rfl) (by with_unfolding_all rfl) 59 ZV (unhide K17) s1 (unhide SZ1) (unhide X1) ?_) | (with_reducible refine wpList_store_row (by with_unfolding_all rfl) 60 _ _ (by with_unfolding_all rfl) (w9.heap.size + 1) DB (by with_unfolding_all rfl) (by with_unfolding_all rfl) 60 ZW (unhide K18) s3 (unhide SZ3) (unhide X3) ?_) | (with_reducible refine wpList_store_row (by with_unfolding_all rfl) 60 _ _ (by with_unfolding_all rfl) (w9.alloc (.cells ZV 59)).heap.size DB (by with_unfolding_all rfl) (by with_unfolding_all rfl) 60 ZW (unhide K18') s3 (unhide SZ3) (unhide X3) ?_))
        try rw [unhide HSZ]
        generalize (((w9.alloc (.cells ZV 59)).alloc (.cells ZW 60)).setRow w9.heap.size TB).setRow (w9.heap.size + 1) DB = w10 at *
        obtain ⟨g15, hg15⟩ : ∃ g15, g15 = w9.heap.size := ⟨_, rfl⟩
        rw [← hg15] at O2 ⊢
        clear hg15 K17 K18 K18' HSZ s1 X1 SZ1 s3 X3 SZ3 Z3
        go_wp2_with fail
        refine (unhide CM _ (unhide O2).st.rep).mono ?_
        rintro e w11 ⟨rfl, hb⟩
        have O3 := hide (((unhide O2).below (unhide TS) hb).alloc (unhide TS) (.cells TK 59))
        clear hb O2 CM
        go_upto_region 31 with (first | (with_reducible refine wpList_allocZ (by with_unfolding_all rfl) 59 (by with_unfolding_all rfl) ZV (unhide Z1) ?_) | (with_reducible refine wpList_store_row (by with_unfolding_all rfl) 59 _ _ (by with_unfolding_all rfl) w11.heap.size TK (by with_unfolding_all rfl) (by with_unfolding_all rfl) 59 ZV (heap_new w11 _) s2 (unhide SZ2) (unhide X2) ?_; rw [setRow_alloc]))
        obtain ⟨g17, hg17⟩ : ∃ g17, g17 = w11.heap.size := ⟨_, rfl⟩
        rw [← hg17] at O3 ⊢
        clear hg17 s2 X2 SZ2 Z1
        generalize w11.alloc (.cells TK 59) = w12 at *
        go_wp2_with fail
        go_loopw [19, 20, 21, 22, 23] (fun q _ _ _ _ wr => ∃ i : Nat, i ≤ 49 ∧ q = .int .i64 i ∧ Held W (SHas W m b (fun A w G => Has W w G m A) S0 A0) w4 wr (fun _ => False) [(g17, .cells TK 59), (g15, .cells TB 59), (gk, .cells (keptV K) 56)]) (fun q _ _ _ _ _ => 49 - (intOf q).toNat)
        case atStart => exact ⟨0, by omega, rfl, unhide O3⟩
        case round =>
          clear O3
          obtain ⟨i, hi, rfl, hh⟩ := hrel
          have HH := hide hh
          clear hh
          by_cases hl49 : i < 49
          · have hl49' : (i : Int) < 49 := by omega
            have hi0 : (0 : Int) ≤ (i : Int) := by omega
            have CBi := hide (unhide CB2 i hl49)
            have CKi := hide (unhide CK2 i hl49)
            have LBi := hide (unhide LB i hl49)
            have LK2 : Hid (mk = true → (S0.k i).k ≠ 0 → ∃ z : Nat, (S0.k i).l = (z : Int) ∧ z < 100 ∧ eqL (A0.hasZ (S0.k i).l) (K z) = true) := fun hm => unhide LK1 hm i hl49
            obtain ⟨kb, hkb⟩ : ∃ kb, kb = (S0.b i).k := ⟨_, rfl⟩
            obtain ⟨lb, hlb⟩ : ∃ lb, lb = (S0.b i).l := ⟨_, rfl⟩
            obtain ⟨kk, hkk⟩ : ∃ kk, kk = (S0.k i).k := ⟨_, rfl⟩
            obtain ⟨lk, hlk⟩ : ∃ lk, lk = (S0.k i).l := ⟨_, rfl⟩
            rw [← hkb, ← hlb] at CBi LBi
            rw [← hkk, ← hlk] at CKi LK2
            clear hkb hlb hkk hlk CB2 CK2 LB LK1
            obtain ⟨fB, hfB⟩ : ∃ fB, fB = A0.hasZ lb := ⟨_, rfl⟩
            obtain ⟨fK, hfK⟩ : ∃ fK, fK = A0.hasZ lk := ⟨_, rfl⟩
            have CL1 := hide (unhide CL _ _ lb (unhide HH).st)
            rw [← hfB] at LBi CL1
            rw [← hfK] at LK2
            have HFK : Hid (A0.hasZ lk = fK) := hfK.symm
            clear hfB hfK
            have c15l : wr.cell? ⟨g15, i * 3 + 2, none⟩ = some (.int .i64 lb) := by rw [cell_of_block ((unhide HH).at g15 (.cells TB 59) (by simp))]; exact (unhide CBi).2
            have s8 := s8_ln fB
            have X8 := hide (lnV_one fB)
            have SZ8 : Hid ((lnV fun _ => 0).size = (lnV fB).size) := by show _ = _; rw [lnV_size, lnV_size]
            have ZL : Hid ((Try.prog.info? 56).map (·.zero) = some (some (.agg (lnV fun _ => 0)))) := by show _ = _; kernel_rfl
            generalize (lnV fun _ => 0) = LZ at *
            obtain ⟨LBV, hLBV⟩ : ∃ LBV, LBV = lnV fB := ⟨_, rfl⟩
            rw [← hLBV] at CL1 s8 X8 SZ8
            have HLBV := hide hLBV
            clear hLBV
            generalize A0.loadE lb = E7 at *
            go_wp2_with fail
            refine (unhide CL1).mono ?_
            rintro e wa ⟨rfl, h1, h2⟩
            have O5 := hide (((unhide HH).call (St' := SHas W m b (fun A w G => Has W w G m A) S0 A0) h1 h2).alloc (unhide TS) (.cells LBV 56))
            clear h1 h2 CL1 c15l HH
            go_upto_region 37 with (first | (with_reducible refine wpList_allocZ (by with_unfolding_all rfl) 56 (by with_unfolding_all rfl) LZ (unhide ZL) ?_) | (with_reducible refine wpList_store_row (by with_unfolding_all rfl) 56 _ _ (by with_unfolding_all rfl) wa.heap.size LBV (by with_unfolding_all rfl) (by with_unfolding_all rfl) 56 LZ (heap_new wa _) s8 (unhide SZ8) (unhide X8) ?_; rw [setRow_alloc]))
            obtain ⟨g20, hg20⟩ : ∃ g20, g20 = wa.heap.size := ⟨_, rfl⟩
            rw [← hg20] at O5 ⊢
            clear hg20 s8 X8 SZ8 ZL
            generalize wa.alloc (.cells LBV 56) = wb at *
            have O6 := O5
            have c15k : wb.cell? ⟨g15, i * 3, none⟩ = some (.int .i64 kb) := by rw [cell_of_block ((unhide O5).at g15 (.cells TB 59) (by simp))]; exact (unhide CBi).1
            have KL := hide ((unhide O5).at g20 (.cells LBV 56) (by simp))
            rw [unhide HLBV] at KL
            have s8 := s8_ln fB
            clear O5
            by_cases hkb : kb = 0
            · subst hkb
              go_upto_region 39 with fail
              clear c15k KL s8 LBi CBi
              have CL2 := hide (unhide CL _ _ lk (unhide O6).st)
              have c17l : wb.cell? ⟨g17, i * 3 + 2, none⟩ = some (.int .i64 lk) := by rw [cell_of_block ((unhide O6).at g17 (.cells TK 59) (by simp))]; exact (unhide CKi).2
              have s8 := s8_ln fK
              have X8 := hide (lnV_one fK)
              have SZ8 : Hid ((lnV fun _ => 0).size = (lnV fK).size) := by show _ = _; rw [lnV_size, lnV_size]
              have ZL : Hid ((Try.prog.info? 56).map (·.zero) = some (some (.agg (lnV fun _ => 0)))) := by show _ = _; kernel_rfl
              rw [unhide HFK] at CL2
              have s8l : (Try.prog.info? 56).map (·.size) = some (lnV fK).toList.length := by rw [Array.length_toList]; exact s8_ln _
              generalize (lnV fun _ => 0) = LZ at *
              obtain ⟨LK, hLK⟩ : ∃ LK, LK = lnV fK := ⟨_, rfl⟩
              rw [← hLK] at CL2 s8 X8 SZ8 s8l
              have HLK := hide hLK
              clear hLK
              generalize A0.loadE lk = E8 at *
              go_wp2_with fail
              refine (unhide CL2).mono ?_
              rintro e wc ⟨rfl, h1, h2⟩
              have O7 := hide (((unhide O6).call (St' := SHas W m b (fun A w G => Has W w G m A) S0 A0) h1 h2).alloc (unhide TS) (.cells LK 56))
              clear h1 h2 CL2 c17l
              go_upto_region 40 with (first | (with_reducible refine wpList_allocZ (by with_unfolding_all rfl) 56 (by with_unfolding_all rfl) LZ (unhide ZL) ?_) | (with_reducible refine wpList_store_row (by with_unfolding_all rfl) 56 _ _ (by with_unfolding_all rfl) wc.heap.size LK (by with_unfolding_all rfl) (by with_unfolding_all rfl) 56 LZ (heap_new wc _) s8 (unhide SZ8) (unhide X8) ?_; rw [setRow_alloc]))
              obtain ⟨g22, hg22⟩ : ∃ g22, g22 = wc.heap.size := ⟨_, rfl⟩
              rw [← hg22] at O7 ⊢
              clear hg22
              generalize wc.alloc (.cells LK 56) = wd at *
              have O8 := hide ((unhide O7).drew (unhide TS))
              have c17k : wd.drew.cell? ⟨g17, i * 3, none⟩ = some (.int .i64 kk) := by rw [cell_of_block ((unhide O8).at g17 (.cells TK 59) (by simp))]; exact (unhide CKi).1
              have c17l : wd.drew.cell? ⟨g17, i * 3 + 2, none⟩ = some (.int .i64 lk) := by rw [cell_of_block ((unhide O8).at g17 (.cells TK 59) (by simp))]; exact (unhide CKi).2
              have r22 : wd.drew.rangeAt g22 0 LK.toList := fun q v hv => by
                rw [cell_of_block ((unhide O8).at g22 (.cells LK 56) (by simp)), Nat.zero_add, ← Array.getElem?_toList]; exact hv
              have bK := hide ((unhide O8).at gk (.cells (keptV K) 56) (by simp))
              rw [unhide HLK] at r22
              clear s8 X8 SZ8 ZL O7 s8l
              have s8l : (Try.prog.info? 56).map (·.size) = some (lnV fK).toList.length := by rw [Array.length_toList]; exact s8_ln _
              refine wp_region_noPanic ?_
              cases mk with
              | false =>
                refine wp_region_held_drew (S := fun _ => True) (by kernel_rfl) trivial (fun hHeld => ?_)
                generalize wd.drew = we at *
                refine take_at 0 158 (v := ?_) rfl rfl (by kernel_rfl) (by kernel_rfl) (by kernel_rfl) (Or.inl ⟨by rfl, ?_⟩) hHeld ?_
                rotate_left
                · intro w hSw; go_simp; with_reducible rfl
                simp only [Act.put, List.setIfInBounds_toArray, List.set_cons_zero, List.set_cons_succ]
                refine take_at 1 159 (v := ?_) rfl rfl (by kernel_rfl) (by kernel_rfl) (by kernel_rfl) (Or.inl ⟨by rfl, ?_⟩) hHeld ?_
                rotate_left
                · intro w hSw; go_simp; with_reducible rfl
                simp only [Act.put, List.setIfInBounds_toArray, List.set_cons_zero, List.set_cons_succ]
                refine take_at 2 160 rfl rfl (by kernel_rfl) (by kernel_rfl) (by kernel_rfl) (.inr ⟨by rfl, rfl⟩) hHeld ?_
                simp only [Act.put, List.setIfInBounds_toArray, List.set_cons_zero, List.set_cons_succ]
                refine take_at 3 161 rfl rfl (by kernel_rfl) (by kernel_rfl) (by kernel_rfl) (.inr ⟨by rfl, rfl⟩) hHeld ?_
                simp only [Act.put, List.setIfInBounds_toArray, List.set_cons_zero, List.set_cons_succ]
                refine take_at 4 162 rfl rfl (by kernel_rfl) (by kernel_rfl) (by kernel_rfl) (.inr ⟨by rfl, rfl⟩) hHeld ?_
                simp only [Act.put, List.setIfInBounds_toArray, List.set_cons_zero, List.set_cons_succ]
                refine take_at 5 163 rfl rfl (by kernel_rfl) (by kernel_rfl) (by kernel_rfl) (.inr ⟨by rfl, rfl⟩) hHeld ?_
                simp only [Act.put, List.setIfInBounds_toArray, List.set_cons_zero, List.set_cons_succ]
                refine take_at 6 164 rfl rfl (by kernel_rfl) (by kernel_rfl) (by kernel_rfl) (.inr ⟨by rfl, rfl⟩) hHeld ?_
                simp only [Act.put, List.setIfInBounds_toArray, List.set_cons_zero, List.set_cons_succ]
                refine take_at 7 165 (v := ?_) rfl rfl (by kernel_rfl) (by kernel_rfl) (by kernel_rfl) (Or.inl ⟨by rfl, ?_⟩) hHeld ?_
                rotate_left
                · intro w hSw; go_simp; with_reducible rfl
                simp only [Act.put, List.setIfInBounds_toArray, List.set_cons_zero, List.set_cons_succ]
                refine take_at 8 166 (v := ?_) rfl rfl (by kernel_rfl) (by kernel_rfl) (by kernel_rfl) (Or.inl ⟨by rfl, ?_⟩) hHeld ?_
                rotate_left
                · intro w hSw; go_simp; with_reducible rfl
                simp only [Act.put, List.setIfInBounds_toArray, List.set_cons_zero, List.set_cons_succ]
                refine take_at 9 167 rfl rfl (by kernel_rfl) (by kernel_rfl) (by kernel_rfl) (.inr ⟨by rfl, rfl⟩) hHeld ?_
                simp only [Act.put, List.setIfInBounds_toArray, List.set_cons_zero, List.set_cons_succ]
                refine take_at 10 168 rfl rfl (by kernel_rfl) (by kernel_rfl) (by kernel_rfl) (.inr ⟨by rfl, rfl⟩) hHeld ?_
                simp only [Act.put, List.setIfInBounds_toArray, List.set_cons_zero, List.set_cons_succ]
                refine take_at 11 169 rfl rfl (by kernel_rfl) (by kernel_rfl) (by kernel_rfl) (.inr ⟨by rfl, rfl⟩) hHeld ?_
                simp only [Act.put, List.setIfInBounds_toArray, List.set_cons_zero, List.set_cons_succ]
                refine take_at 12 170 rfl rfl (by kernel_rfl) (by kernel_rfl) (by kernel_rfl) (.inr ⟨by rfl, rfl⟩) hHeld ?_
                simp only [Act.put, List.setIfInBounds_toArray, List.set_cons_zero, List.set_cons_succ]
                refine take_at 13 171 rfl rfl (by kernel_rfl) (by kernel_rfl) (by kernel_rfl) (.inr ⟨by rfl, rfl⟩) hHeld ?_
                simp only [Act.put, List.setIfInBounds_toArray, List.set_cons_zero, List.set_cons_succ]
                refine take_at 14 172 rfl rfl (by kernel_rfl) (by kernel_rfl) (by kernel_rfl) (.inr ⟨by rfl, rfl⟩) hHeld ?_
                simp only [Act.put, List.setIfInBounds_toArray, List.set_cons_zero, List.set_cons_succ]
                refine take_at 15 173 rfl rfl (by kernel_rfl) (by kernel_rfl) (by kernel_rfl) (.inr ⟨by rfl, rfl⟩) hHeld ?_
                simp only [Act.put, List.setIfInBounds_toArray, List.set_cons_zero, List.set_cons_succ]
                refine take_at 16 174 rfl rfl (by kernel_rfl) (by kernel_rfl) (by kernel_rfl) (.inr ⟨by rfl, rfl⟩) hHeld ?_
                simp only [Act.put, List.setIfInBounds_toArray, List.set_cons_zero, List.set_cons_succ]
                refine take_at 17 175 rfl rfl (by kernel_rfl) (by kernel_rfl) (by kernel_rfl) (.inr ⟨by rfl, rfl⟩) hHeld ?_
                simp only [Act.put, List.setIfInBounds_toArray, List.set_cons_zero, List.set_cons_succ]
                refine take_at 18 176 (v := ?_) rfl rfl (by kernel_rfl) (by kernel_rfl) (by kernel_rfl) (Or.inl ⟨by rfl, ?_⟩) hHeld ?_
                rotate_left
                · intro w hSw; go_simp; with_reducible rfl
                simp only [Act.put, List.setIfInBounds_toArray, List.set_cons_zero, List.set_cons_succ]
                refine wpAnyH_done (by kernel_rfl) ?_ _
                refine NoPanic.normal ?_
                clear hHeld
                go_wp2_with fail
                go_roundw
                case rel => exact ⟨i + 1, by omega, by go_num, (unhide O8).less (unhide TS) (fun p hp => List.mem_cons_of_mem _ (List.mem_cons_of_mem _ hp))⟩
                case measure => simp [intOf]; omega
              | true =>
                by_cases hkk : kk = 0
                · refine wp_region_held_drew (S := fun w' => w'.cell? ⟨g17, i * 3, none⟩ = some (.int .i64 kk)) (by kernel_rfl) c17k (fun hHeld => ?_)
                  generalize wd.drew = we at *
                  subst hkk
                  refine take_at 0 158 (v := ?_) rfl rfl (by kernel_rfl) (by kernel_rfl) (by kernel_rfl) (Or.inl ⟨by rfl, ?_⟩) hHeld ?_
                  rotate_left
                  · intro w hSw; go_simp; with_reducible rfl
                  simp only [Act.put, List.setIfInBounds_toArray, List.set_cons_zero, List.set_cons_succ]
                  refine take_at 1 159 (v := ?_) rfl rfl (by kernel_rfl) (by kernel_rfl) (by kernel_rfl) (Or.inl ⟨by rfl, ?_⟩) hHeld ?_
                  rotate_left
                  · intro w hSw; go_simp; with_reducible rfl
                  simp only [Act.put, List.setIfInBounds_toArray, List.set_cons_zero, List.set_cons_succ]
                  refine take_at 2 160 (v := ?_) rfl rfl (by kernel_rfl) (by kernel_rfl) (by kernel_rfl) (Or.inl ⟨by rfl, ?_⟩) hHeld ?_
                  rotate_left
                  · intro w hSw; go_simp; with_reducible rfl
                  simp only [Act.put, List.setIfInBounds_toArray, List.set_cons_zero, List.set_cons_succ]
                  refine take_at 3 161 (v := .pointer (some ⟨g17, i * 3, none⟩)) rfl rfl (by kernel_rfl) (by kernel_rfl) (by kernel_rfl) (Or.inl ⟨by rfl, ?_⟩) hHeld ?_
                  · intro w hSw; first | (go_simp; done) | (go_simp; rfl)
                  simp only [Act.put, List.setIfInBounds_toArray, List.set_cons_zero, List.set_cons_succ]
                  refine take_at 4 162 (v := ?_) rfl rfl (by kernel_rfl) (by kernel_rfl) (by kernel_rfl) (Or.inl ⟨by rfl, ?_⟩) hHeld ?_
                  rotate_left
                  · intro w hSw; go_simp; with_reducible rfl
                  simp only [Act.put, List.setIfInBounds_toArray, List.set_cons_zero, List.set_cons_succ]
                  refine take_at 5 163 (v := ?_) rfl rfl (by kernel_rfl) (by kernel_rfl) (by kernel_rfl) (Or.inl ⟨by rfl, ?_⟩) hHeld ?_
                  rotate_left
                  · intro w hSw; go_simp; with_reducible rfl
                  simp only [Act.put, List.setIfInBounds_toArray, List.set_cons_zero, List.set_cons_succ]
                  refine take_at 6 164 (v := ?_) rfl rfl (by kernel_rfl) (by kernel_rfl) (by kernel_rfl) (Or.inl ⟨by rfl, ?_⟩) hHeld ?_
                  rotate_left
                  · intro w hSw; go_simp; with_reducible rfl
                  simp only [Act.put, List.setIfInBounds_toArray, List.set_cons_zero, List.set_cons_succ]
                  refine take_at 7 165 (v := ?_) rfl rfl (by kernel_rfl) (by kernel_rfl) (by kernel_rfl) (Or.inl ⟨by rfl, ?_⟩) hHeld ?_
                  rotate_left
                  · intro w hSw; go_simp; with_reducible rfl
                  simp only [Act.put, List.setIfInBounds_toArray, List.set_cons_zero, List.set_cons_succ]
                  refine take_at 8 166 (v := ?_) rfl rfl (by kernel_rfl) (by kernel_rfl) (by kernel_rfl) (Or.inl ⟨by rfl, ?_⟩) hHeld ?_
                  rotate_left
                  · intro w hSw; go_simp; with_reducible rfl
                  simp only [Act.put, List.setIfInBounds_toArray, List.set_cons_zero, List.set_cons_succ]
                  refine take_at 9 167 rfl rfl (by kernel_rfl) (by kernel_rfl) (by kernel_rfl) (.inr ⟨by rfl, rfl⟩) hHeld ?_
                  simp only [Act.put, List.setIfInBounds_toArray, List.set_cons_zero, List.set_cons_succ]
                  refine take_at 10 168 rfl rfl (by kernel_rfl) (by kernel_rfl) (by kernel_rfl) (.inr ⟨by rfl, rfl⟩) hHeld ?_
                  simp only [Act.put, List.setIfInBounds_toArray, List.set_cons_zero, List.set_cons_succ]
                  refine take_at 11 169 rfl rfl (by kernel_rfl) (by kernel_rfl) (by kernel_rfl) (.inr ⟨by rfl, rfl⟩) hHeld ?_
                  simp only [Act.put, List.setIfInBounds_toArray, List.set_cons_zero, List.set_cons_succ]
                  refine take_at 12 170 rfl rfl (by kernel_rfl) (by kernel_rfl) (by kernel_rfl) (.inr ⟨by rfl, rfl⟩) hHeld ?_
                  simp only [Act.put, List.setIfInBounds_toArray, List.set_cons_zero, List.set_cons_succ]
                  refine take_at 13 171 rfl rfl (by kernel_rfl) (by kernel_rfl) (by kernel_rfl) (.inr ⟨by rfl, rfl⟩) hHeld ?_
                  simp only [Act.put, List.setIfInBounds_toArray, List.set_cons_zero, List.set_cons_succ]
                  refine take_at 14 172 rfl rfl (by kernel_rfl) (by kernel_rfl) (by kernel_rfl) (.inr ⟨by rfl, rfl⟩) hHeld ?_
                  simp only [Act.put, List.setIfInBounds_toArray, List.set_cons_zero, List.set_cons_succ]
                  refine take_at 15 173 rfl rfl (by kernel_rfl) (by kernel_rfl) (by kernel_rfl) (.inr ⟨by rfl, rfl⟩) hHeld ?_
                  simp only [Act.put, List.setIfInBounds_toArray, List.set_cons_zero, List.set_cons_succ]
                  refine take_at 16 174 rfl rfl (by kernel_rfl) (by kernel_rfl) (by kernel_rfl) (.inr ⟨by rfl, rfl⟩) hHeld ?_
                  simp only [Act.put, List.setIfInBounds_toArray, List.set_cons_zero, List.set_cons_succ]
                  refine take_at 17 175 rfl rfl (by kernel_rfl) (by kernel_rfl) (by kernel_rfl) (.inr ⟨by rfl, rfl⟩) hHeld ?_
                  simp only [Act.put, List.setIfInBounds_toArray, List.set_cons_zero, List.set_cons_succ]
                  refine take_at 18 176 (v := ?_) rfl rfl (by kernel_rfl) (by kernel_rfl) (by kernel_rfl) (Or.inl ⟨by rfl, ?_⟩) hHeld ?_
                  rotate_left
                  · intro w hSw; go_simp; with_reducible rfl
                  simp only [Act.put, List.setIfInBounds_toArray, List.set_cons_zero, List.set_cons_succ]
                  refine wpAnyH_done (by kernel_rfl) ?_ _
                  refine NoPanic.normal ?_
                  clear hHeld
                  go_wp2_with fail
                  go_roundw
                  case rel => exact ⟨i + 1, by omega, by go_num, (unhide O8).less (unhide TS) (fun p hp => List.mem_cons_of_mem _ (List.mem_cons_of_mem _ hp))⟩
                  case measure => simp [intOf]; omega
                · obtain ⟨z, hz, hz1, HQ⟩ := unhide LK2 rfl hkk
                  rw [hz] at c17l
                  have hz' : (z : Int) < 100 := by omega
                  have rK := kept_range hz1 (unhide bK)
                  have HQ2 := hide HQ
                  have hkk1 : (kk != 0) = true := by simpa using hkk
                  have s8k : (Try.prog.info? 56).map (·.size) = some (lnV (K z)).toList.length := by rw [Array.length_toList]; exact s8_ln _
                  clear HQ hz
                  generalize K z = KZ at *
                  refine wp_region_held_drew (S := fun w' => w'.cell? ⟨g17, i * 3, none⟩ = some (.int .i64 kk) ∧ w'.cell? ⟨g17, i * 3 + 2, none⟩ = some (.int .i64 (z : Int)) ∧ w'.rangeAt g22 0 (lnV fK).toList ∧ w'.rangeAt gk (z * 8) (lnV KZ).toList) (by kernel_rfl) ⟨c17k, c17l, r22, rK⟩ (fun hHeld => ?_)
                  generalize wd.drew = we at *
                  clear c17k c17l r22 rK
                  refine take_at 0 158 (v := ?_) rfl rfl (by kernel_rfl) (by kernel_rfl) (by kernel_rfl) (Or.inl ⟨by rfl, ?_⟩) hHeld ?_
                  rotate_left
                  · intro w hSw; go_simp; with_reducible rfl
                  simp only [Act.put, List.setIfInBounds_toArray, List.set_cons_zero, List.set_cons_succ]
                  refine take_at 1 159 (v := ?_) rfl rfl (by kernel_rfl) (by kernel_rfl) (by kernel_rfl) (Or.inl ⟨by rfl, ?_⟩) hHeld ?_
                  rotate_left
                  · intro w hSw; go_simp; with_reducible rfl
                  simp only [Act.put, List.setIfInBounds_toArray, List.set_cons_zero, List.set_cons_succ]
                  refine take_at 2 160 (v := ?_) rfl rfl (by kernel_rfl) (by kernel_rfl) (by kernel_rfl) (Or.inl ⟨by rfl, ?_⟩) hHeld ?_
                  rotate_left
                  · intro w hSw; go_simp; with_reducible rfl
                  simp only [Act.put, List.setIfInBounds_toArray, List.set_cons_zero, List.set_cons_succ]
                  refine take_at 3 161 (v := .pointer (some ⟨g17, i * 3, none⟩)) rfl rfl (by kernel_rfl) (by kernel_rfl) (by kernel_rfl) (Or.inl ⟨by rfl, ?_⟩) hHeld ?_
                  · intro w hSw; first | (go_simp; done) | (go_simp; rfl)
                  simp only [Act.put, List.setIfInBounds_toArray, List.set_cons_zero, List.set_cons_succ]
                  refine take_at 4 162 (v := ?_) rfl rfl (by kernel_rfl) (by kernel_rfl) (by kernel_rfl) (Or.inl ⟨by rfl, ?_⟩) hHeld ?_
                  rotate_left
                  · intro w hSw; go_simp; with_reducible rfl
                  simp only [Act.put, List.setIfInBounds_toArray, List.set_cons_zero, List.set_cons_succ]
                  refine take_at 5 163 (v := ?_) rfl rfl (by kernel_rfl) (by kernel_rfl) (by kernel_rfl) (Or.inl ⟨by rfl, ?_⟩) hHeld ?_
                  rotate_left
                  · intro w hSw; obtain ⟨s1, s2, s3, s4⟩ := hSw; go_simp; with_reducible rfl
                  simp only [Act.put, List.setIfInBounds_toArray, List.set_cons_zero, List.set_cons_succ]
                  refine take_at 6 164 (v := ?_) rfl rfl (by kernel_rfl) (by kernel_rfl) (by kernel_rfl) (Or.inl ⟨by rfl, ?_⟩) hHeld ?_
                  rotate_left
                  · intro w hSw; go_simp; with_reducible rfl
                  simp only [Act.put, List.setIfInBounds_toArray, List.set_cons_zero, List.set_cons_succ]
                  refine take_at 7 165 (v := ?_) rfl rfl (by kernel_rfl) (by kernel_rfl) (by kernel_rfl) (Or.inl ⟨by rfl, ?_⟩) hHeld ?_
                  rotate_left
                  · intro w hSw; go_simp; with_reducible rfl
                  simp only [Act.put, List.setIfInBounds_toArray, List.set_cons_zero, List.set_cons_succ]
                  refine take_at 8 166 (v := ?_) rfl rfl (by kernel_rfl) (by kernel_rfl) (by kernel_rfl) (Or.inl ⟨by rfl, ?_⟩) hHeld ?_
                  rotate_left
                  · intro w hSw; go_simp; with_reducible rfl
                  simp only [Act.put, List.setIfInBounds_toArray, List.set_cons_zero, List.set_cons_succ]
                  refine take_at 9 167 rfl rfl (by kernel_rfl) (by kernel_rfl) (by kernel_rfl) (yieldsIf_load_mid (by rfl) 56 _ rfl g22 0 rfl (lnV fK).toList _ (fun w' h => h.2.2.1) Try.underlying56 rfl s8l) hHeld ?_
                  simp only [Act.put, List.setIfInBounds_toArray, List.set_cons_zero, List.set_cons_succ]
                  refine take_at 10 168 (v := ?_) rfl rfl (by kernel_rfl) (by kernel_rfl) (by kernel_rfl) (Or.inl ⟨by rfl, ?_⟩) hHeld ?_
                  rotate_left
                  · intro w hSw; go_simp; with_reducible rfl
                  simp only [Act.put, List.setIfInBounds_toArray, List.set_cons_zero, List.set_cons_succ]
                  refine take_at 11 169 (v := ?_) rfl rfl (by kernel_rfl) (by kernel_rfl) (by kernel_rfl) (Or.inl ⟨by rfl, ?_⟩) hHeld ?_
                  rotate_left
                  · intro w hSw; go_simp; with_reducible rfl
                  simp only [Act.put, List.setIfInBounds_toArray, List.set_cons_zero, List.set_cons_succ]
                  refine take_at 12 170 (v := .pointer (some ⟨g17, i * 3, none⟩)) rfl rfl (by kernel_rfl) (by kernel_rfl) (by kernel_rfl) (Or.inl ⟨by rfl, ?_⟩) hHeld ?_
                  · intro w hSw; first | (go_simp; done) | (go_simp; rfl)
                  simp only [Act.put, List.setIfInBounds_toArray, List.set_cons_zero, List.set_cons_succ]
                  refine take_at 13 171 (v := ?_) rfl rfl (by kernel_rfl) (by kernel_rfl) (by kernel_rfl) (Or.inl ⟨by rfl, ?_⟩) hHeld ?_
                  rotate_left
                  · intro w hSw; go_simp; with_reducible rfl
                  simp only [Act.put, List.setIfInBounds_toArray, List.set_cons_zero, List.set_cons_succ]
                  refine take_at 14 172 (v := ?_) rfl rfl (by kernel_rfl) (by kernel_rfl) (by kernel_rfl) (Or.inl ⟨by rfl, ?_⟩) hHeld ?_
                  rotate_left
                  · intro w hSw; obtain ⟨s1, s2, s3, s4⟩ := hSw; go_simp; with_reducible rfl
                  simp only [Act.put, List.setIfInBounds_toArray, List.set_cons_zero, List.set_cons_succ]
                  refine take_at 15 173 (v := .pointer (some ⟨gk, z * 8, none⟩)) rfl rfl (by kernel_rfl) (by kernel_rfl) (by kernel_rfl) (Or.inl ⟨by rfl, ?_⟩) hHeld ?_
                  · intro w hSw; first | (go_simp; done) | (go_simp; rfl)
                  simp only [Act.put, List.setIfInBounds_toArray, List.set_cons_zero, List.set_cons_succ]
                  refine take_at 16 174 rfl rfl (by kernel_rfl) (by kernel_rfl) (by kernel_rfl) (yieldsIf_load_mid (by rfl) 56 _ rfl gk (z * 8) rfl (lnV KZ).toList _ (fun w' h => h.2.2.2) Try.underlying56 rfl s8k) hHeld ?_
                  simp only [Act.put, List.setIfInBounds_toArray, List.set_cons_zero, List.set_cons_succ]
                  refine take_at 17 175 rfl rfl (by kernel_rfl) (by kernel_rfl) (by kernel_rfl) (yieldsIf_neqL (by rfl) (.tmp 167) (.tmp 174) rfl fK KZ rfl rfl) hHeld ?_
                  simp only [Act.put, List.setIfInBounds_toArray, List.set_cons_zero, List.set_cons_succ]
                  rw [unhide HQ2]
                  refine take_at 18 176 (v := ?_) rfl rfl (by kernel_rfl) (by kernel_rfl) (by kernel_rfl) (Or.inl ⟨by rfl, ?_⟩) hHeld ?_
                  rotate_left
                  · intro w hSw; go_simp; with_reducible rfl
                  simp only [Act.put, List.setIfInBounds_toArray, List.set_cons_zero, List.set_cons_succ]
                  refine wpAnyH_done (by kernel_rfl) ?_ _
                  refine NoPanic.normal ?_
                  clear hHeld
                  go_wp2_with fail
                  go_roundw
                  case rel => exact ⟨i + 1, by omega, by go_num, (unhide O8).less (unhide TS) (fun p hp => List.mem_cons_of_mem _ (List.mem_cons_of_mem _ hp))⟩
                  case measure => simp [intOf]; omega
            · have hkb1 : (kb != 0) = true := by simpa using hkb
              have HQ := hide (unhide LBi hkb)
              go_upto_region 39 with (first | (refine wpList_load_row_g (by rfl) 56 _ rfl g20 rfl _ _ _ _ (unhide KL) Try.underlying56 rfl s8 ?_) | (refine wpList_buildL (by rfl) _ rfl zeroL build_zl ?_) | (refine wpList_neq (by rfl) (.tmp 145) (.tmp 146) rfl fB zeroL rfl rfl ?_; rw [unhide HQ]))
              clear c15k KL s8 LBi CBi HQ hkb hkb1
              have CL2 := hide (unhide CL _ _ lk (unhide O6).st)
              have c17l : wb.cell? ⟨g17, i * 3 + 2, none⟩ = some (.int .i64 lk) := by rw [cell_of_block ((unhide O6).at g17 (.cells TK 59) (by simp))]; exact (unhide CKi).2
              have s8 := s8_ln fK
              have X8 := hide (lnV_one fK)
              have SZ8 : Hid ((lnV fun _ => 0).size = (lnV fK).size) := by show _ = _; rw [lnV_size, lnV_size]
              have ZL : Hid ((Try.prog.info? 56).map (·.zero) = some (some (.agg (lnV fun _ => 0)))) := by show _ = _; kernel_rfl
              rw [unhide HFK] at CL2
              have s8l : (Try.prog.info? 56).map (·.size) = some (lnV fK).toList.length := by rw [Array.length_toList]; exact s8_ln _
              generalize (lnV fun _ => 0) = LZ at *
              obtain ⟨LK, hLK⟩ : ∃ LK, LK = lnV fK := ⟨_, rfl⟩
              rw [← hLK] at CL2 s8 X8 SZ8 s8l
              have HLK := hide hLK
              clear hLK
              generalize A0.loadE lk = E8 at *
              go_wp2_with fail
              refine (unhide CL2).mono ?_
              rintro e wc ⟨rfl, h1, h2⟩
              have O7 := hide (((unhide O6).call (St' := SHas W m b (fun A w G => Has W w G m A) S0 A0) h1 h2).alloc (unhide TS) (.cells LK 56))
              clear h1 h2 CL2 c17l
              go_upto_region 40 with (first | (with_reducible refine wpList_allocZ (by with_unfolding_all rfl) 56 (by with_unfolding_all rfl) LZ (unhide ZL) ?_) | (with_reducible refine wpList_store_row (by with_unfolding_all rfl) 56 _ _ (by with_unfolding_all rfl) wc.heap.size LK (by with_unfolding_all rfl) (by with_unfolding_all rfl) 56 LZ (heap_new wc _) s8 (unhide SZ8) (unhide X8) ?_; rw [setRow_alloc]))
              obtain ⟨g22, hg22⟩ : ∃ g22, g22 = wc.heap.size := ⟨_, rfl⟩
              rw [← hg22] at O7 ⊢
              clear hg22
              generalize wc.alloc (.cells LK 56) = wd at *
              have O8 := hide ((unhide O7).drew (unhide TS))
              have c17k : wd.drew.cell? ⟨g17, i * 3, none⟩ = some (.int .i64 kk) := by rw [cell_of_block ((unhide O8).at g17 (.cells TK 59) (by simp))]; exact (unhide CKi).1
              have c17l : wd.drew.cell? ⟨g17, i * 3 + 2, none⟩ = some (.int .i64 lk) := by rw [cell_of_block ((unhide O8).at g17 (.cells TK 59) (by simp))]; exact (unhide CKi).2
              have r22 : wd.drew.rangeAt g22 0 LK.toList := fun q v hv => by
                rw [cell_of_block ((unhide O8).at g22 (.cells LK 56) (by simp)), Nat.zero_add, ← Array.getElem?_toList]; exact hv
              have bK := hide ((unhide O8).at gk (.cells (keptV K) 56) (by simp))
              rw [unhide HLK] at r22
              clear s8 X8 SZ8 ZL O7 s8l
              have s8l : (Try.prog.info? 56).map (·.size) = some (lnV fK).toList.length := by rw [Array.length_toList]; exact s8_ln _
              refine wp_region_noPanic ?_
              cases mk with
              | false =>
                refine wp_region_held_drew (S := fun _ => True) (by kernel_rfl) trivial (fun hHeld => ?_)
                generalize wd.drew = we at *
                refine take_at 0 158 (v := ?_) rfl rfl (by kernel_rfl) (by kernel_rfl) (by kernel_rfl) (Or.inl ⟨by rfl, ?_⟩) hHeld ?_
                rotate_left
                · intro w hSw; go_simp; with_reducible rfl
                simp only [Act.put, List.setIfInBounds_toArray, List.set_cons_zero, List.set_cons_succ]
                refine take_at 1 159 (v := ?_) rfl rfl (by kernel_rfl) (by kernel_rfl) (by kernel_rfl) (Or.inl ⟨by rfl, ?_⟩) hHeld ?_
                rotate_left
                · intro w hSw; go_simp; with_reducible rfl
                simp only [Act.put, List.setIfInBounds_toArray, List.set_cons_zero, List.set_cons_succ]
                refine take_at 2 160 rfl rfl (by kernel_rfl) (by kernel_rfl) (by kernel_rfl) (.inr ⟨by rfl, rfl⟩) hHeld ?_
                simp only [Act.put, List.setIfInBounds_toArray, List.set_cons_zero, List.set_cons_succ]
                refine take_at 3 161 rfl rfl (by kernel_rfl) (by kernel_rfl) (by kernel_rfl) (.inr ⟨by rfl, rfl⟩) hHeld ?_
                simp only [Act.put, List.setIfInBounds_toArray, List.set_cons_zero, List.set_cons_succ]
                refine take_at 4 162 rfl rfl (by kernel_rfl) (by kernel_rfl) (by kernel_rfl) (.inr ⟨by rfl, rfl⟩) hHeld ?_
                simp only [Act.put, List.setIfInBounds_toArray, List.set_cons_zero, List.set_cons_succ]
                refine take_at 5 163 rfl rfl (by kernel_rfl) (by kernel_rfl) (by kernel_rfl) (.inr ⟨by rfl, rfl⟩) hHeld ?_
                simp only [Act.put, List.setIfInBounds_toArray, List.set_cons_zero, List.set_cons_succ]
                refine take_at 6 164 rfl rfl (by kernel_rfl) (by kernel_rfl) (by kernel_rfl) (.inr ⟨by rfl, rfl⟩) hHeld ?_
                simp only [Act.put, List.setIfInBounds_toArray, List.set_cons_zero, List.set_cons_succ]
                refine take_at 7 165 (v := ?_) rfl rfl (by kernel_rfl) (by kernel_rfl) (by kernel_rfl) (Or.inl ⟨by rfl, ?_⟩) hHeld ?_
                rotate_left
                · intro w hSw; go_simp; with_reducible rfl
                simp only [Act.put, List.setIfInBounds_toArray, List.set_cons_zero, List.set_cons_succ]
                refine take_at 8 166 (v := ?_) rfl rfl (by kernel_rfl) (by kernel_rfl) (by kernel_rfl) (Or.inl ⟨by rfl, ?_⟩) hHeld ?_
                rotate_left
                · intro w hSw; go_simp; with_reducible rfl
                simp only [Act.put, List.setIfInBounds_toArray, List.set_cons_zero, List.set_cons_succ]
                refine take_at 9 167 rfl rfl (by kernel_rfl) (by kernel_rfl) (by kernel_rfl) (.inr ⟨by rfl, rfl⟩) hHeld ?_
                simp only [Act.put, List.setIfInBounds_toArray, List.set_cons_zero, List.set_cons_succ]
                refine take_at 10 168 rfl rfl (by kernel_rfl) (by kernel_rfl) (by kernel_rfl) (.inr ⟨by rfl, rfl⟩) hHeld ?_
                simp only [Act.put, List.setIfInBounds_toArray, List.set_cons_zero, List.set_cons_succ]
                refine take_at 11 169 rfl rfl (by kernel_rfl) (by kernel_rfl) (by kernel_rfl) (.inr ⟨by rfl, rfl⟩) hHeld ?_
                simp only [Act.put, List.setIfInBounds_toArray, List.set_cons_zero, List.set_cons_succ]
                refine take_at 12 170 rfl rfl (by kernel_rfl) (by kernel_rfl) (by kernel_rfl) (.inr ⟨by rfl, rfl⟩) hHeld ?_
                simp only [Act.put, List.setIfInBounds_toArray, List.set_cons_zero, List.set_cons_succ]
                refine take_at 13 171 rfl rfl (by kernel_rfl) (by kernel_rfl) (by kernel_rfl) (.inr ⟨by rfl, rfl⟩) hHeld ?_
                simp only [Act.put, List.setIfInBounds_toArray, List.set_cons_zero, List.set_cons_succ]
                refine take_at 14 172 rfl rfl (by kernel_rfl) (by kernel_rfl) (by kernel_rfl) (.inr ⟨by rfl, rfl⟩) hHeld ?_
                simp only [Act.put, List.setIfInBounds_toArray, List.set_cons_zero, List.set_cons_succ]
                refine take_at 15 173 rfl rfl (by kernel_rfl) (by kernel_rfl) (by kernel_rfl) (.inr ⟨by rfl, rfl⟩) hHeld ?_
                simp only [Act.put, List.setIfInBounds_toArray, List.set_cons_zero, List.set_cons_succ]
                refine take_at 16 174 rfl rfl (by kernel_rfl) (by kernel_rfl) (by kernel_rfl) (.inr ⟨by rfl, rfl⟩) hHeld ?_
                simp only [Act.put, List.setIfInBounds_toArray, List.set_cons_zero, List.set_cons_succ]
                refine take_at 17 175 rfl rfl (by kernel_rfl) (by kernel_rfl) (by kernel_rfl) (.inr ⟨by rfl, rfl⟩) hHeld ?_
                simp only [Act.put, List.setIfInBounds_toArray, List.set_cons_zero, List.set_cons_succ]
                refine take_at 18 176 (v := ?_) rfl rfl (by kernel_rfl) (by kernel_rfl) (by kernel_rfl) (Or.inl ⟨by rfl, ?_⟩) hHeld ?_
                rotate_left
                · intro w hSw; go_simp; with_reducible rfl
                simp only [Act.put, List.setIfInBounds_toArray, List.set_cons_zero, List.set_cons_succ]
                refine wpAnyH_done (by kernel_rfl) ?_ _
                refine NoPanic.normal ?_
                clear hHeld
                go_wp2_with fail
                go_roundw
                case rel => exact ⟨i + 1, by omega, by go_num, (unhide O8).less (unhide TS) (fun p hp => List.mem_cons_of_mem _ (List.mem_cons_of_mem _ hp))⟩
                case measure => simp [intOf]; omega
              | true =>
                by_cases hkk : kk = 0
                · refine wp_region_held_drew (S := fun w' => w'.cell? ⟨g17, i * 3, none⟩ = some (.int .i64 kk)) (by kernel_rfl) c17k (fun hHeld => ?_)
                  generalize wd.drew = we at *
                  subst hkk
                  refine take_at 0 158 (v := ?_) rfl rfl (by kernel_rfl) (by kernel_rfl) (by kernel_rfl) (Or.inl ⟨by rfl, ?_⟩) hHeld ?_
                  rotate_left
                  · intro w hSw; go_simp; with_reducible rfl
                  simp only [Act.put, List.setIfInBounds_toArray, List.set_cons_zero, List.set_cons_succ]
                  refine take_at 1 159 (v := ?_) rfl rfl (by kernel_rfl) (by kernel_rfl) (by kernel_rfl) (Or.inl ⟨by rfl, ?_⟩) hHeld ?_
                  rotate_left
                  · intro w hSw; go_simp; with_reducible rfl
                  simp only [Act.put, List.setIfInBounds_toArray, List.set_cons_zero, List.set_cons_succ]
                  refine take_at 2 160 (v := ?_) rfl rfl (by kernel_rfl) (by kernel_rfl) (by kernel_rfl) (Or.inl ⟨by rfl, ?_⟩) hHeld ?_
                  rotate_left
                  · intro w hSw; go_simp; with_reducible rfl
                  simp only [Act.put, List.setIfInBounds_toArray, List.set_cons_zero, List.set_cons_succ]
                  refine take_at 3 161 (v := .pointer (some ⟨g17, i * 3, none⟩)) rfl rfl (by kernel_rfl) (by kernel_rfl) (by kernel_rfl) (Or.inl ⟨by rfl, ?_⟩) hHeld ?_
                  · intro w hSw; first | (go_simp; done) | (go_simp; rfl)
                  simp only [Act.put, List.setIfInBounds_toArray, List.set_cons_zero, List.set_cons_succ]
                  refine take_at 4 162 (v := ?_) rfl rfl (by kernel_rfl) (by kernel_rfl) (by kernel_rfl) (Or.inl ⟨by rfl, ?_⟩) hHeld ?_
                  rotate_left
                  · intro w hSw; go_simp; with_reducible rfl
                  simp only [Act.put, List.setIfInBounds_toArray, List.set_cons_zero, List.set_cons_succ]
                  refine take_at 5 163 (v := ?_) rfl rfl (by kernel_rfl) (by kernel_rfl) (by kernel_rfl) (Or.inl ⟨by rfl, ?_⟩) hHeld ?_
                  rotate_left
                  · intro w hSw; go_simp; with_reducible rfl
                  simp only [Act.put, List.setIfInBounds_toArray, List.set_cons_zero, List.set_cons_succ]
                  refine take_at 6 164 (v := ?_) rfl rfl (by kernel_rfl) (by kernel_rfl) (by kernel_rfl) (Or.inl ⟨by rfl, ?_⟩) hHeld ?_
                  rotate_left
                  · intro w hSw; go_simp; with_reducible rfl
                  simp only [Act.put, List.setIfInBounds_toArray, List.set_cons_zero, List.set_cons_succ]
                  refine take_at 7 165 (v := ?_) rfl rfl (by kernel_rfl) (by kernel_rfl) (by kernel_rfl) (Or.inl ⟨by rfl, ?_⟩) hHeld ?_
                  rotate_left
                  · intro w hSw; go_simp; with_reducible rfl
                  simp only [Act.put, List.setIfInBounds_toArray, List.set_cons_zero, List.set_cons_succ]
                  refine take_at 8 166 (v := ?_) rfl rfl (by kernel_rfl) (by kernel_rfl) (by kernel_rfl) (Or.inl ⟨by rfl, ?_⟩) hHeld ?_
                  rotate_left
                  · intro w hSw; go_simp; with_reducible rfl
                  simp only [Act.put, List.setIfInBounds_toArray, List.set_cons_zero, List.set_cons_succ]
                  refine take_at 9 167 rfl rfl (by kernel_rfl) (by kernel_rfl) (by kernel_rfl) (.inr ⟨by rfl, rfl⟩) hHeld ?_
                  simp only [Act.put, List.setIfInBounds_toArray, List.set_cons_zero, List.set_cons_succ]
                  refine take_at 10 168 rfl rfl (by kernel_rfl) (by kernel_rfl) (by kernel_rfl) (.inr ⟨by rfl, rfl⟩) hHeld ?_
                  simp only [Act.put, List.setIfInBounds_toArray, List.set_cons_zero, List.set_cons_succ]
                  refine take_at 11 169 rfl rfl (by kernel_rfl) (by kernel_rfl) (by kernel_rfl) (.inr ⟨by rfl, rfl⟩) hHeld ?_
                  simp only [Act.put, List.setIfInBounds_toArray, List.set_cons_zero, List.set_cons_succ]
                  refine take_at 12 170 rfl rfl (by kernel_rfl) (by kernel_rfl) (by kernel_rfl) (.inr ⟨by rfl, rfl⟩) hHeld ?_
                  simp only [Act.put, List.setIfInBounds_toArray, List.set_cons_zero, List.set_cons_succ]
                  refine take_at 13 171 rfl rfl (by kernel_rfl) (by kernel_rfl) (by kernel_rfl) (.inr ⟨by rfl, rfl⟩) hHeld ?_
                  simp only [Act.put, List.setIfInBounds_toArray, List.set_cons_zero, List.set_cons_succ]
                  refine take_at 14 172 rfl rfl (by kernel_rfl) (by kernel_rfl) (by kernel_rfl) (.inr ⟨by rfl, rfl⟩) hHeld ?_
                  simp only [Act.put, List.setIfInBounds_toArray, List.set_cons_zero, List.set_cons_succ]
                  refine take_at 15 173 rfl rfl (by kernel_rfl) (by kernel_rfl) (by kernel_rfl) (.inr ⟨by rfl, rfl⟩) hHeld ?_
                  simp only [Act.put, List.setIfInBounds_toArray, List.set_cons_zero, List.set_cons_succ]
                  refine take_at 16 174 rfl rfl (by kernel_rfl) (by kernel_rfl) (by kernel_rfl) (.inr ⟨by rfl, rfl⟩) hHeld ?_
                  simp only [Act.put, List.setIfInBounds_toArray, List.set_cons_zero, List.set_cons_succ]
                  refine take_at 17 175 rfl rfl (by kernel_rfl) (by kernel_rfl) (by kernel_rfl) (.inr ⟨by rfl, rfl⟩) hHeld ?_
                  simp only [Act.put, List.setIfInBounds_toArray, List.set_cons_zero, List.set_cons_succ]
                  refine take_at 18 176 (v := ?_) rfl rfl (by kernel_rfl) (by kernel_rfl) (by kernel_rfl) (Or.inl ⟨by rfl, ?_⟩) hHeld ?_
                  rotate_left
                  · intro w hSw; go_simp; with_reducible rfl
                  simp only [Act.put, List.setIfInBounds_toArray, List.set_cons_zero, List.set_cons_succ]
                  refine wpAnyH_done (by kernel_rfl) ?_ _
                  refine NoPanic.normal ?_
                  clear hHeld
                  go_wp2_with fail
                  go_roundw
                  case rel => exact ⟨i + 1, by omega, by go_num, (unhide O8).less (unhide TS) (fun p hp => List.mem_cons_of_mem _ (List.mem_cons_of_mem _ hp))⟩
                  case measure => simp [intOf]; omega
                · obtain ⟨z, hz, hz1, HQ⟩ := unhide LK2 rfl hkk
                  rw [hz] at c17l
                  have hz' : (z : Int) < 100 := by omega
                  have rK := kept_range hz1 (unhide bK)
                  have HQ2 := hide HQ
                  have hkk1 : (kk != 0) = true := by simpa using hkk
                  have s8k : (Try.prog.info? 56).map (·.size) = some (lnV (K z)).toList.length := by rw [Array.length_toList]; exact s8_ln _
                  clear HQ hz
                  generalize K z = KZ at *
                  refine wp_region_held_drew (S := fun w' => w'.cell? ⟨g17, i * 3, none⟩ = some (.int .i64 kk) ∧ w'.cell? ⟨g17, i * 3 + 2, none⟩ = some (.int .i64 (z : Int)) ∧ w'.rangeAt g22 0 (lnV fK).toList ∧ w'.rangeAt gk (z * 8) (lnV KZ).toList) (by kernel_rfl) ⟨c17k, c17l, r22, rK⟩ (fun hHeld => ?_)
                  generalize wd.drew = we at *
                  clear c17k c17l r22 rK
                  refine take_at 0 158 (v := ?_) rfl rfl (by kernel_rfl) (by kernel_rfl) (by kernel_rfl) (Or.inl ⟨by rfl, ?_⟩) hHeld ?_
                  rotate_left
                  · intro w hSw; go_simp; with_reducible rfl
                  simp only [Act.put, List.setIfInBounds_toArray, List.set_cons_zero, List.set_cons_succ]
                  refine take_at 1 159 (v := ?_) rfl rfl (by kernel_rfl) (by kernel_rfl) (by kernel_rfl) (Or.inl ⟨by rfl, ?_⟩) hHeld ?_
                  rotate_left
                  · intro w hSw; go_simp; with_reducible rfl
                  simp only [Act.put, List.setIfInBounds_toArray, List.set_cons_zero, List.set_cons_succ]
                  refine take_at 2 160 (v := ?_) rfl rfl (by kernel_rfl) (by kernel_rfl) (by kernel_rfl) (Or.inl ⟨by rfl, ?_⟩) hHeld ?_
                  rotate_left
                  · intro w hSw; go_simp; with_reducible rfl
                  simp only [Act.put, List.setIfInBounds_toArray, List.set_cons_zero, List.set_cons_succ]
                  refine take_at 3 161 (v := .pointer (some ⟨g17, i * 3, none⟩)) rfl rfl (by kernel_rfl) (by kernel_rfl) (by kernel_rfl) (Or.inl ⟨by rfl, ?_⟩) hHeld ?_
                  · intro w hSw; first | (go_simp; done) | (go_simp; rfl)
                  simp only [Act.put, List.setIfInBounds_toArray, List.set_cons_zero, List.set_cons_succ]
                  refine take_at 4 162 (v := ?_) rfl rfl (by kernel_rfl) (by kernel_rfl) (by kernel_rfl) (Or.inl ⟨by rfl, ?_⟩) hHeld ?_
                  rotate_left
                  · intro w hSw; go_simp; with_reducible rfl
                  simp only [Act.put, List.setIfInBounds_toArray, List.set_cons_zero, List.set_cons_succ]
                  refine take_at 5 163 (v := ?_) rfl rfl (by kernel_rfl) (by kernel_rfl) (by kernel_rfl) (Or.inl ⟨by rfl, ?_⟩) hHeld ?_
                  rotate_left
                  · intro w hSw; obtain ⟨s1, s2, s3, s4⟩ := hSw; go_simp; with_reducible rfl
                  simp only [Act.put, List.setIfInBounds_toArray, List.set_cons_zero, List.set_cons_succ]
                  refine take_at 6 164 (v := ?_) rfl rfl (by kernel_rfl) (by kernel_rfl) (by kernel_rfl) (Or.inl ⟨by rfl, ?_⟩) hHeld ?_
                  rotate_left
                  · intro w hSw; go_simp; with_reducible rfl
                  simp only [Act.put, List.setIfInBounds_toArray, List.set_cons_zero, List.set_cons_succ]
                  refine take_at 7 165 (v := ?_) rfl rfl (by kernel_rfl) (by kernel_rfl) (by kernel_rfl) (Or.inl ⟨by rfl, ?_⟩) hHeld ?_
                  rotate_left
                  · intro w hSw; go_simp; with_reducible rfl
                  simp only [Act.put, List.setIfInBounds_toArray, List.set_cons_zero, List.set_cons_succ]
                  refine take_at 8 166 (v := ?_) rfl rfl (by kernel_rfl) (by kernel_rfl) (by kernel_rfl) (Or.inl ⟨by rfl, ?_⟩) hHeld ?_
                  rotate_left
                  · intro w hSw; go_simp; with_reducible rfl
                  simp only [Act.put, List.setIfInBounds_toArray, List.set_cons_zero, List.set_cons_succ]
                  refine take_at 9 167 rfl rfl (by kernel_rfl) (by kernel_rfl) (by kernel_rfl) (yieldsIf_load_mid (by rfl) 56 _ rfl g22 0 rfl (lnV fK).toList _ (fun w' h => h.2.2.1) Try.underlying56 rfl s8l) hHeld ?_
                  simp only [Act.put, List.setIfInBounds_toArray, List.set_cons_zero, List.set_cons_succ]
                  refine take_at 10 168 (v := ?_) rfl rfl (by kernel_rfl) (by kernel_rfl) (by kernel_rfl) (Or.inl ⟨by rfl, ?_⟩) hHeld ?_
                  rotate_left
                  · intro w hSw; go_simp; with_reducible rfl
                  simp only [Act.put, List.setIfInBounds_toArray, List.set_cons_zero, List.set_cons_succ]
                  refine take_at 11 169 (v := ?_) rfl rfl (by kernel_rfl) (by kernel_rfl) (by kernel_rfl) (Or.inl ⟨by rfl, ?_⟩) hHeld ?_
                  rotate_left
                  · intro w hSw; go_simp; with_reducible rfl
                  simp only [Act.put, List.setIfInBounds_toArray, List.set_cons_zero, List.set_cons_succ]
                  refine take_at 12 170 (v := .pointer (some ⟨g17, i * 3, none⟩)) rfl rfl (by kernel_rfl) (by kernel_rfl) (by kernel_rfl) (Or.inl ⟨by rfl, ?_⟩) hHeld ?_
                  · intro w hSw; first | (go_simp; done) | (go_simp; rfl)
                  simp only [Act.put, List.setIfInBounds_toArray, List.set_cons_zero, List.set_cons_succ]
                  refine take_at 13 171 (v := ?_) rfl rfl (by kernel_rfl) (by kernel_rfl) (by kernel_rfl) (Or.inl ⟨by rfl, ?_⟩) hHeld ?_
                  rotate_left
                  · intro w hSw; go_simp; with_reducible rfl
                  simp only [Act.put, List.setIfInBounds_toArray, List.set_cons_zero, List.set_cons_succ]
                  refine take_at 14 172 (v := ?_) rfl rfl (by kernel_rfl) (by kernel_rfl) (by kernel_rfl) (Or.inl ⟨by rfl, ?_⟩) hHeld ?_
                  rotate_left
                  · intro w hSw; obtain ⟨s1, s2, s3, s4⟩ := hSw; go_simp; with_reducible rfl
                  simp only [Act.put, List.setIfInBounds_toArray, List.set_cons_zero, List.set_cons_succ]
                  refine take_at 15 173 (v := .pointer (some ⟨gk, z * 8, none⟩)) rfl rfl (by kernel_rfl) (by kernel_rfl) (by kernel_rfl) (Or.inl ⟨by rfl, ?_⟩) hHeld ?_
                  · intro w hSw; first | (go_simp; done) | (go_simp; rfl)
                  simp only [Act.put, List.setIfInBounds_toArray, List.set_cons_zero, List.set_cons_succ]
                  refine take_at 16 174 rfl rfl (by kernel_rfl) (by kernel_rfl) (by kernel_rfl) (yieldsIf_load_mid (by rfl) 56 _ rfl gk (z * 8) rfl (lnV KZ).toList _ (fun w' h => h.2.2.2) Try.underlying56 rfl s8k) hHeld ?_
                  simp only [Act.put, List.setIfInBounds_toArray, List.set_cons_zero, List.set_cons_succ]
                  refine take_at 17 175 rfl rfl (by kernel_rfl) (by kernel_rfl) (by kernel_rfl) (yieldsIf_neqL (by rfl) (.tmp 167) (.tmp 174) rfl fK KZ rfl rfl) hHeld ?_
                  simp only [Act.put, List.setIfInBounds_toArray, List.set_cons_zero, List.set_cons_succ]
                  rw [unhide HQ2]
                  refine take_at 18 176 (v := ?_) rfl rfl (by kernel_rfl) (by kernel_rfl) (by kernel_rfl) (Or.inl ⟨by rfl, ?_⟩) hHeld ?_
                  rotate_left
                  · intro w hSw; go_simp; with_reducible rfl
                  simp only [Act.put, List.setIfInBounds_toArray, List.set_cons_zero, List.set_cons_succ]
                  refine wpAnyH_done (by kernel_rfl) ?_ _
                  refine NoPanic.normal ?_
                  clear hHeld
                  go_wp2_with fail
                  go_roundw
                  case rel => exact ⟨i + 1, by omega, by go_num, (unhide O8).less (unhide TS) (fun p hp => List.mem_cons_of_mem _ (List.mem_cons_of_mem _ hp))⟩
                  case measure => simp [intOf]; omega
          · have hg49 : ¬ ((i : Int) < 49) := by omega
            have HKK : Hid (Keeps (fun _ => False) W wr) := (unhide TS).sz _ _ (unhide HH).1
            go_wp2_with fail
            go_ret
            exact ⟨rfl, (unhide HKK).below (Nat.le_refl _) (fun _ h => h.elim)⟩

set_option maxRecDepth 100000 in
theorem lifted (os : Os) (started : os.Started) (H : Type) (enc : TypeId × Value → H) :
    ReturnsInHanded {} Try.checked os 4 .any (Rows.objectsKeepSpec.pre6 enc Try.prog Try.f4 Rows.objectsKeepRow.domain false) (Rows.objectsKeepSpec.post enc Try.prog Try.f4 false true false false) := by
  refine law_frame (C := Try.checked) (ts := [42, 3]) (tb := 4) (by kernel_rfl) started (by kernel_rfl) Try.func4 Try.params4 (by kernel_rfl) Try.underlying4 (by kernel_rfl) (by kernel_rfl) rfl ?_
    (ChangeSpec.witness6 (enc := enc) (C := Try.checked) false ⟨#[], #[.slice none 0 0, .int .i64 0], []⟩ 8 (by kernel_rfl) (by kernel_rfl) (by kernel_rfl) (by kernel_rfl)) ?_
  · intro ds hd
    match ds, hd with
    | [d0, d1], _ => rfl
  · intro W base args ds p hval hA
    obtain ⟨v0, vs0, d0, ds0, p0, q0, hargs, rfl, rfl, h0, r0⟩ := trodAll_cons hA
    obtain ⟨v1, vs1, d1, ds1, p1, q1, rfl, rfl, rfl, h1, r1⟩ := trodAll_cons r0
    obtain ⟨rfl, rfl, rfl⟩ := trodAll_nil r1
    obtain rfl : args = #[v0, v1] := by cases args; simp_all
    obtain ⟨a, n, cap, o, rfl, hO⟩ := open_oops (hval 0 42 v0 rfl rfl) h0
    obtain ⟨at_, rfl, rfl, rfl, wat_⟩ := open_int Try.underlying3 (hval 1 3 v1 rfl rfl) h1
    exact walk W a n cap o at_ hO wat_

theorem over : Rows.objectsKeepRow.holds Try.pinned (OpenSpec.ofChange Rows.objectsKeepSpec) :=
  OpenClaim.holds_of_wide 4 Try.f4 rfl rfl rfl rfl rfl rfl rfl ⟨rfl, rfl, rfl, rfl, rfl⟩ rfl rfl rfl rfl rfl (by kernel_rfl) Try.func4 (by kernel_rfl)
    (of_decide_eq_true (by kernel_rfl)) (by unfold Func.isWrapper; first | (rw [if_pos (by decide +kernel)]; kernel_rfl) | (rw [if_neg (by decide +kernel)]; exact ⟨rfl, rfl⟩))
    (fun os started H enc _ => lifted os started H enc)

end Go.Proofs.Ytjmgmbigbkllgaa.objectsKeep
namespace Go.Proofs.Ytjmgmbigbkllgaa
theorem objectsKeep_holds : Rows.ObjectsKeepSaid := objectsKeep.over
end Go.Proofs.Ytjmgmbigbkllgaa
