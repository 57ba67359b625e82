
/-
  For every row of calls, RlogPlays returns true and leaves its arguments as they were: records are appended, and scanned, as the document says, with fuses, crashes and lines that are spoilt. No condition.
-/
import Derived.Test.YtjidekjeibdbgaaPkRR
import Derived.Test.YtjidekjeibdbgaaRKind
import Derived.Test.YtjidekjeibdbgaaRows
import Derived.Deep.QuietTactic
import Derived.BigQuiet
namespace Go.Proofs.Ytjidekjeibdbgaa.rlogPlays
open Go.ChangeShapes Go.WideShapes Go.ChangeAt Go.RowKit Go.Joins
set_option linter.unusedVariables false
set_option linter.unusedSimpArgs false
set_option maxRecDepth 100000

theorem two_drewN {W w : World} {G : Nat → Prop} {b y : Nat} {A A' : Mm} (h : Two W w G b y A A') (n : Nat) : Two W (w.drewN n) G b y A A' :=
  (Two.stay W b y A A').bl _ _ _ h (keeps_drewN w n)
theorem two_count {W w : World} {G : Nat → Prop} {b y : Nat} {A A' : Mm} (h : Two W w G b y A A') : w.cell? ⟨y, 4, none⟩ = some (.int .i64 (A'.steps : Int)) := by
  obtain ⟨F', gs, cz, gl, ads, caps, hr, hh, hF, hG⟩ := h
  rw [cell_of_block hr.hd]; rfl
theorem scan_len (A : Mm) (z : Int) : (A.scanV z).length ≤ 1000 := by
  unfold Mm.scanV
  split
  · next h =>
    rw [sortR_len]
    have h1 := recs_len A (4 * z.toNat)
    have := h.1.2
    omega
  · simp
def opRV (q : OpR) : Array Value := q.cells.toArray
theorem opRV_size (q : OpR) : (opRV q).size = 10 := rfl
theorem opRV_one (q : OpR) : (opRV q).all (·.oneCell') = true := by simp [opRV, OpR.cells, Value.oneCell']
theorem opR_new (q : OpR) (T : TypeId) : ∀ (W : World) (C : Array Value), C.size = 10 → Sem.run Try.prog (storeCells ⟨W.heap.size, 0, none⟩ (opRV q).toList) (W.alloc (.cells C T)) = .ok () (W.alloc (.cells (opRV q) T)) :=
  fun W C hC => run_store_new _ _ rfl C _ _ (by rw [hC, opRV_size]) (opRV_one _)
theorem osizeR : (Try.prog.info? 45).map (·.size) = some 10 := by kernel_rfl
theorem op_cells {w : World} {L : Nat} {q : OpR} (h : w.heap[L]? = some (.cells (opRV q) 45 (0, 0))) :
    w.cell? ⟨L, 0, none⟩ = some (.int .i64 q.kind) ∧ w.cell? ⟨L, 1, none⟩ = some (.int .i64 q.core) ∧ w.cell? ⟨L, 2, none⟩ = some (.int .i64 q.seq) ∧ w.cell? ⟨L, 3, none⟩ = some (.int .i64 q.n) ∧ w.rangeAt L 4 (rv q.r).toList ∧ w.cell? ⟨L, 8, none⟩ = some (.int .u64 q.v) ∧ w.cell? ⟨L, 9, none⟩ = some (.slice q.ka q.keep.length q.kcap) := by
  refine ⟨?_, ?_, ?_, ?_, ?_, ?_, ?_⟩
  · rw [cell_of_block h]; rfl
  · rw [cell_of_block h]; rfl
  · rw [cell_of_block h]; rfl
  · rw [cell_of_block h]; rfl
  · intro j u hj
    rw [cell_of_block h]
    match j, hj with
    | 0, hj => exact hj
    | 1, hj => exact hj
    | 2, hj => exact hj
    | 3, hj => exact hj
    | j + 4, hj => simp [rv] at hj
  · rw [cell_of_block h]; rfl
  · rw [cell_of_block h]; rfl

set_option maxHeartbeats 800000 in
theorem walk (W : World) (a : Option Addr) (n cap : Nat) (o : Nat → OpR) (hO : OpsR W a n cap o) :
    Calls Try.prog 5 #[.slice a n cap] W fun e W' => e = .returned (.bool true) ∧ Below W.heap.size W W' := by
  obtain ⟨hn, hops⟩ := hO
  have HO := hide hops
  clear hops
  go_enter Try.func5, Try.ntmps5
  go_wp2_with fail
  refine (shown6_any W).mono ?_
  rintro e w0 ⟨rfl, hk0⟩
  go_wp2_with fail
  refine (new_any w0 64 (by decide) (by decide)).mono ?_
  intro e w1 hm
  obtain ⟨b, rfl, h0, -⟩ := made_has W hk0 hm (fun _ => False) (fun _ h => h.elim)
  have H0 := hide h0
  clear hm h0 hk0
  go_wp2_with fail
  refine (rnew_any w1 64 (by decide) (by decide)).mono ?_
  rintro e w2 ⟨y, gs, cs, gl, F', ads, caps, rfl, hr, hk2, hF⟩
  have H2 : Hid (Two W w2 (fun _ => False) b y s0 s0) := Two.made (unhide H0) hr hk2 hF
  clear H0 hr hk2 hF
  go_wp2_with fail
  go_loopw [8] (fun i wr => ∃ (k : Nat) (A : Mm), k ≤ n ∧ k ≤ 60 ∧ i = .int .i64 k ∧ Aside (Two W wr (fun _ => False) b y A A) ∧ Aside (A.ok (11 * k))) (fun i _ => 60 - (intOf i).toNat)
  case atStart => exact ⟨0, s0, by omega, by omega, rfl, unhide H2, ok_new (by decide) (by decide) (fun _ _ => ⟨by decide, by decide⟩)⟩
  case round =>
    clear H2
    obtain ⟨k, A, hk, hk60, rfl, HA, OK⟩ := hrel
    by_cases hlt : k < n ∧ k < 60
    · obtain ⟨hlt, hl6⟩ := hlt
      obtain ⟨x, off, rfl, hx⟩ : ∃ b off, a = some ⟨b, off, none⟩ ∧ ∀ i, i < n → W.rangeAt b (off + i * 10) (o i).cells ∧ (o i).ok W := by
        rcases unhide HO with h | h
        · omega
        · exact h
      obtain ⟨u1, u2⟩ := hx k hlt
      generalize o k = q at u1 u2
      have QOK := hide u2
      have RQ : Hid (wr.rangeAt x (off + k * 10) (opRV q).toList) := rangeAt_keeps u1 HA.out.keeps id
      have s10 : (Try.prog.info? 45).map (·.size) = some (opRV q).toList.length := by rw [Array.length_toList, opRV_size]; exact osizeR
      have nO := opR_new q 45
      have zO := opRV_size q
      have eO : (opRV q).toList.toArray = opRV q := rfl
      have hlt' : (k : Int) < (n : Int) := by omega
      have hl6' : (k : Int) < 60 := by omega
      have kl := kindN_lt q.kind 8 (by decide)
      have kcl := kindN_lt q.core 8 (by decide)
      have CK : Hid (∀ w, Calls Try.prog 17 #[.int .i64 q.kind, .int .i64 8] w fun e w' => e = .returned (.int .i64 (kindN q.kind 8 : Int)) ∧ w' = w) := fun w => rkind_any q.kind (unhide QOK).1 8 (by decide) (by decide) w
      have CC : Hid (∀ w, Calls Try.prog 17 #[.int .i64 q.core, .int .i64 8] w fun e w' => e = .returned (.int .i64 (kindN q.core 8 : Int)) ∧ w' = w) := fun w => rkind_any q.core (unhide QOK).2.1 8 (by decide) (by decide) w
      generalize kindN q.kind 8 = kd at *
      generalize kindN q.core 8 = kc at *
      have O1 := hide ((Held.start (Two.stay W b y A A) HA.out).alloc (Two.stay W b y A A) (.cells (opRV q) 45))
      clear u1 u2 hx HA
      have f0 := (op_cells ((unhide O1).at wr.heap.size (.cells (opRV q) 45) (by simp))).1
      go_wp2_with (refine wpList_load_mid rfl 45 _ rfl x (off + k * 10) rfl _ _ (unhide RQ) Try.underlying45 rfl s10 ?_)
      refine (unhide CK _).mono ?_
      rintro e V ⟨rfl, hV⟩
      rw [← hV] at O1
      have es : (rv q.r).toList.toArray = rv q.r := rfl
      clear hV f0 CK RQ nO s10 eO zO
      by_cases h5 : kd = 5
      · subst h5
        have f3 := (op_cells ((unhide O1).at wr.heap.size (.cells (opRV q) 45) (by simp))).2.2.2.1
        go_wp2_with fail
        refine ((unhide O1).st.fuseL q.n).mono ?_
        rintro e V1 ⟨rfl, h1, h2⟩
        have O2 := hide ((unhide O1).call (St' := fun w G => Two W w G b y (A.fused q.n) A) h1 h2)
        clear h1 h2 O1 f3
        have f3 := (op_cells ((unhide O2).at wr.heap.size (.cells (opRV q) 45) (by simp))).2.2.2.1
        go_wp2_with fail
        refine ((unhide O2).st.fuseR q.n).mono ?_
        rintro e V2 ⟨rfl, h1, h2⟩
        have O9 := hide ((unhide O2).call (St' := fun w G => Two W w G b y (A.fused q.n) (A.fused q.n)) h1 h2)
        have OK2 : Hid ((A.fused q.n).ok (11 * (k + 1))) := ok_mono (ok_fused OK.out q.n (unhide QOK).2.2.2.1) (by omega)
        clear h1 h2 O2 f3 QOK
        generalize A.fused q.n = A2 at *
        have f1 := (op_cells ((unhide O9).at wr.heap.size (.cells (opRV q) 45) (by simp))).2.1
        go_wp2_with fail
        refine (unhide CC _).mono ?_
        rintro e V9 ⟨rfl, rfl⟩
        clear f1
        have SA := hide (scan_len A2 (1 + (kc : Int)))
        have S1 := hide ((unhide O9).st.scanL6 (ok_mono (unhide OK2) (by omega)) (1 + (kc : Int)))
        have S2 : Hid (∀ w G, Two W w G b y A2 A2 → Calls Try.prog 29 #[.pointer (some ⟨y, 0, none⟩), .int .i64 (1 + (kc : Int))] w (TScanned W w G b y A2 A2 (A2.scanV (1 + (kc : Int))) (A2.scanE (1 + (kc : Int))))) := fun w G h => h.scanR6 (ok_mono (unhide OK2) (by omega)) _
        generalize A2.scanV (1 + (kc : Int)) = rs at *
        generalize A2.scanE (1 + (kc : Int)) = E at *
        go_wp2_with fail
        refine (unhide S1).mono ?_
        rintro e X1 ⟨v1, rfl, ⟨C1, t1, tr, t3, t4⟩, hs1⟩
        have TR := hide tr
        have T1 := hide t1
        have f1 := (op_cells ((hs1 wr.heap.size (Or.inr ⟨_, List.mem_singleton.2 rfl⟩)).trans ((unhide O9).at wr.heap.size (.cells (opRV q) 45) (by simp)))).2.1
        clear S1 O9 tr t1 t3 t4 hs1
        go_wp2_with fail
        refine (unhide CC _).mono ?_
        rintro e X1 ⟨rfl, rfl⟩
        clear f1
        go_wp2_with fail
        refine (unhide S2 _ _ (unhide T1)).mono ?_
        rintro e X2 ⟨v2, rfl, ⟨C2, r1, rr, r3, r4⟩, hs2⟩
        have o1 : X2.ownsRow W.heap.size 24 4 v1 rs.length (flatR rs) := (recSt_loc _ _ _ _ _ C1 (unhide TR) (fun k hk => hs2 k (Or.inr hk))).2
        have SM := hide (same_rows (unhide SA) o1 rr.2)
        have R1 := hide r1
        clear S2 T1 TR o1 rr r1 r3 r4 hs2 SA
        go_wp2_with fail
        refine (unhide SM).mono ?_
        rintro e X3 ⟨rfl, hk3⟩
        have R3 : Hid (Two W X3 (fun _ => False) b y A2 A2) := ((Two.stay W b y A2 A2).bl _ _ _ (unhide R1) hk3).less (fun k hk => hk.elim)
        clear SM R1 hk3
        have cy := two_count (unhide R3)
        have QS : Hid (∀ q, Calls Try.prog 31 #[.pointer (some ⟨b, 0, none⟩)] (X3.drewN q) fun e w' => e = .returned (.int .i64 (A2.steps : Int)) ∧ w' = X3.drewN q) := fun q => (two_drewN (unhide R3) q).has.steps
        generalize hst : (A2.steps : Int) = stp at cy QS
        clear hst
        go_wp2_with fail
        go_quiet ((go_at_call 31; exact Calls.quiet_of_same (unhide QS _)))
        clear QS cy
        go_wp2_with fail
        exact ⟨⟨k + 1, A2, by omega, by omega, congrArg (Value.int .i64) (by omega), two_drewN (unhide R3) _, unhide OK2⟩, by simp [intOf]; omega⟩
      · have h5z : ¬ (kd : Int) = 5 := by omega
        by_cases h6 : kd = 6
        · subst h6
          have f9 := (op_cells ((unhide O1).at wr.heap.size (.cells (opRV q) 45) (by simp))).2.2.2.2.2.2
          go_wp2_with fail
          refine ((unhide O1).st.crashL (ok_mono OK.out (by omega)) q.ka q.keep q.kcap (unhide QOK).2.2.2.2.2.2.2.1 (unhide QOK).2.2.2.2.2.2.2.2 (unhide QOK).2.2.2.2.2.2.1).mono ?_
          rintro e V1 ⟨rfl, h1, h2⟩
          have O2 := hide ((unhide O1).call (St' := fun w G => Two W w G b y (A.crash q.keep) A) h1 h2)
          clear h1 h2 O1 f9
          have f9 := (op_cells ((unhide O2).at wr.heap.size (.cells (opRV q) 45) (by simp))).2.2.2.2.2.2
          go_wp2_with fail
          refine ((unhide O2).st.crashR (ok_mono OK.out (by omega)) q.ka q.keep q.kcap (unhide QOK).2.2.2.2.2.2.2.1 (unhide QOK).2.2.2.2.2.2.2.2 (unhide QOK).2.2.2.2.2.2.1).mono ?_
          rintro e V2 ⟨rfl, h1, h2⟩
          have O9 := hide ((unhide O2).call (St' := fun w G => Two W w G b y (A.crash q.keep) (A.crash q.keep)) h1 h2)
          have OK2 : Hid ((A.crash q.keep).ok (11 * (k + 1))) := ok_mono (ok_crash OK.out q.keep) (by omega)
          clear h1 h2 O2 f9 QOK
          generalize A.crash q.keep = A2 at *
          have f1 := (op_cells ((unhide O9).at wr.heap.size (.cells (opRV q) 45) (by simp))).2.1
          go_wp2_with fail
          refine (unhide CC _).mono ?_
          rintro e V9 ⟨rfl, rfl⟩
          clear f1
          have SA := hide (scan_len A2 (1 + (kc : Int)))
          have S1 := hide ((unhide O9).st.scanL6 (ok_mono (unhide OK2) (by omega)) (1 + (kc : Int)))
          have S2 : Hid (∀ w G, Two W w G b y A2 A2 → Calls Try.prog 29 #[.pointer (some ⟨y, 0, none⟩), .int .i64 (1 + (kc : Int))] w (TScanned W w G b y A2 A2 (A2.scanV (1 + (kc : Int))) (A2.scanE (1 + (kc : Int))))) := fun w G h => h.scanR6 (ok_mono (unhide OK2) (by omega)) _
          generalize A2.scanV (1 + (kc : Int)) = rs at *
          generalize A2.scanE (1 + (kc : Int)) = E at *
          go_wp2_with fail
          refine (unhide S1).mono ?_
          rintro e X1 ⟨v1, rfl, ⟨C1, t1, tr, t3, t4⟩, hs1⟩
          have TR := hide tr
          have T1 := hide t1
          have f1 := (op_cells ((hs1 wr.heap.size (Or.inr ⟨_, List.mem_singleton.2 rfl⟩)).trans ((unhide O9).at wr.heap.size (.cells (opRV q) 45) (by simp)))).2.1
          clear S1 O9 tr t1 t3 t4 hs1
          go_wp2_with fail
          refine (unhide CC _).mono ?_
          rintro e X1 ⟨rfl, rfl⟩
          clear f1
          go_wp2_with fail
          refine (unhide S2 _ _ (unhide T1)).mono ?_
          rintro e X2 ⟨v2, rfl, ⟨C2, r1, rr, r3, r4⟩, hs2⟩
          have o1 : X2.ownsRow W.heap.size 24 4 v1 rs.length (flatR rs) := (recSt_loc _ _ _ _ _ C1 (unhide TR) (fun k hk => hs2 k (Or.inr hk))).2
          have SM := hide (same_rows (unhide SA) o1 rr.2)
          have R1 := hide r1
          clear S2 T1 TR o1 rr r1 r3 r4 hs2 SA
          go_wp2_with fail
          refine (unhide SM).mono ?_
          rintro e X3 ⟨rfl, hk3⟩
          have R3 : Hid (Two W X3 (fun _ => False) b y A2 A2) := ((Two.stay W b y A2 A2).bl _ _ _ (unhide R1) hk3).less (fun k hk => hk.elim)
          clear SM R1 hk3
          have cy := two_count (unhide R3)
          have QS : Hid (∀ q, Calls Try.prog 31 #[.pointer (some ⟨b, 0, none⟩)] (X3.drewN q) fun e w' => e = .returned (.int .i64 (A2.steps : Int)) ∧ w' = X3.drewN q) := fun q => (two_drewN (unhide R3) q).has.steps
          generalize hst : (A2.steps : Int) = stp at cy QS
          clear hst
          go_wp2_with fail
          go_quiet ((go_at_call 31; exact Calls.quiet_of_same (unhide QS _)))
          clear QS cy
          go_wp2_with fail
          exact ⟨⟨k + 1, A2, by omega, by omega, congrArg (Value.int .i64) (by omega), two_drewN (unhide R3) _, unhide OK2⟩, by simp [intOf]; omega⟩
        · have h6z : ¬ (kd : Int) = 6 := by omega
          by_cases h7 : kd = 7
          · subst h7
            have g := op_cells ((unhide O1).at wr.heap.size (.cells (opRV q) 45) (by simp))
            have HG1 : Hid (V.drew.cell? ⟨wr.heap.size, 1, none⟩ = some (.int .i64 q.core) ∧ V.drew.cell? ⟨wr.heap.size, 3, none⟩ = some (.int .i64 q.n) ∧ V.drew.cell? ⟨wr.heap.size, 8, none⟩ = some (.int .u64 q.v)) := ⟨g.2.1, g.2.2.2.1, g.2.2.2.2.2.1⟩
            clear g
            go_wp2_with fail
            refine wp_region_noPanic ?_
            refine wp_region_held_drew (S := fun w' => w'.cell? ⟨wr.heap.size, 1, none⟩ = some (.int .i64 q.core) ∧ w'.cell? ⟨wr.heap.size, 3, none⟩ = some (.int .i64 q.n) ∧ w'.cell? ⟨wr.heap.size, 8, none⟩ = some (.int .u64 q.v)) (by kernel_rfl) (unhide HG1) (fun hHeld => ?_)
            have OD := hide ((unhide O1).keeps (Two.stay W b y A A) (w' := V.drew) ⟨rfl, rfl, rfl, Nat.le_refl _, fun _ _ _ => rfl⟩)
            clear HG1 O1
            generalize V.drew = X at *
            refine take_at 0 122 (v := ?_) rfl rfl (by kernel_rfl) (by kernel_rfl) (by kernel_rfl) (Or.inl ⟨by rfl, ?_⟩) hHeld ?_
            rotate_left
            · intro w hSw; go_simp; with_reducible rfl
            simp only [Act.put, List.setIfInBounds_toArray, List.set_cons_zero, List.set_cons_succ]
            refine take_at 1 123 (v := ?_) rfl rfl (by kernel_rfl) (by kernel_rfl) (by kernel_rfl) (Or.inl ⟨by rfl, ?_⟩) hHeld ?_
            rotate_left
            · intro w hSw; go_simp; with_reducible rfl
            simp only [Act.put, List.setIfInBounds_toArray, List.set_cons_zero, List.set_cons_succ]
            refine take_at 2 124 (v := ?_) rfl rfl (by kernel_rfl) (by kernel_rfl) (by kernel_rfl) (Or.inl ⟨by rfl, ?_⟩) hHeld ?_
            rotate_left
            · intro w hSw; have hc := hSw.2.1; go_simp; with_reducible rfl
            simp only [Act.put, List.setIfInBounds_toArray, List.set_cons_zero, List.set_cons_succ]
            refine take_at 3 125 (v := ?_) rfl rfl (by kernel_rfl) (by kernel_rfl) (by kernel_rfl) (Or.inl ⟨by rfl, ?_⟩) hHeld ?_
            rotate_left
            · intro w hSw; go_simp; with_reducible rfl
            simp only [Act.put, List.setIfInBounds_toArray, List.set_cons_zero, List.set_cons_succ]
            refine take_at 4 126 (v := ?_) rfl rfl (by kernel_rfl) (by kernel_rfl) (by kernel_rfl) (Or.inl ⟨by rfl, ?_⟩) hHeld ?_
            rotate_left
            · intro w hSw; have hc := hSw.1; go_simp; with_reducible rfl
            simp only [Act.put, List.setIfInBounds_toArray, List.set_cons_zero, List.set_cons_succ]
            refine take_at 5 127 (v := ?_) rfl rfl (by kernel_rfl) (by kernel_rfl) (by kernel_rfl) (Or.inl ⟨by rfl, ?_⟩) hHeld ?_
            rotate_left
            · intro w hSw; go_simp; with_reducible rfl
            simp only [Act.put, List.setIfInBounds_toArray, List.set_cons_zero, List.set_cons_succ]
            refine take_at 6 128 (v := ?_) rfl rfl (by kernel_rfl) (by kernel_rfl) (by kernel_rfl) (Or.inl ⟨by rfl, ?_⟩) hHeld ?_
            rotate_left
            · intro w hSw; have hc := hSw.2.2; go_simp; with_reducible rfl
            simp only [Act.put, List.setIfInBounds_toArray, List.set_cons_zero, List.set_cons_succ]
            refine take_at 8 130 (v := ?_) rfl rfl (by kernel_rfl) (by kernel_rfl) (by kernel_rfl) (Or.inl ⟨by rfl, ?_⟩) hHeld ?_
            rotate_left
            · intro w hSw; go_simp; with_reducible rfl
            simp only [Act.put, List.setIfInBounds_toArray, List.set_cons_zero, List.set_cons_succ]
            refine take_at 9 131 (v := ?_) rfl rfl (by kernel_rfl) (by kernel_rfl) (by kernel_rfl) (Or.inl ⟨by rfl, ?_⟩) hHeld ?_
            rotate_left
            · intro w hSw; go_simp; with_reducible rfl
            simp only [Act.put, List.setIfInBounds_toArray, List.set_cons_zero, List.set_cons_succ]
            refine take_at 10 132 (v := ?_) rfl rfl (by kernel_rfl) (by kernel_rfl) (by kernel_rfl) (Or.inl ⟨by rfl, ?_⟩) hHeld ?_
            rotate_left
            · intro w hSw; have hc := hSw.2.1; go_simp; with_reducible rfl
            simp only [Act.put, List.setIfInBounds_toArray, List.set_cons_zero, List.set_cons_succ]
            refine take_at 11 133 (v := ?_) rfl rfl (by kernel_rfl) (by kernel_rfl) (by kernel_rfl) (Or.inl ⟨by rfl, ?_⟩) hHeld ?_
            rotate_left
            · intro w hSw; go_simp; with_reducible rfl
            simp only [Act.put, List.setIfInBounds_toArray, List.set_cons_zero, List.set_cons_succ]
            refine take_at 12 134 (v := ?_) rfl rfl (by kernel_rfl) (by kernel_rfl) (by kernel_rfl) (Or.inl ⟨by rfl, ?_⟩) hHeld ?_
            rotate_left
            · intro w hSw; have hc := hSw.1; go_simp; with_reducible rfl
            simp only [Act.put, List.setIfInBounds_toArray, List.set_cons_zero, List.set_cons_succ]
            refine take_at 13 135 (v := ?_) rfl rfl (by kernel_rfl) (by kernel_rfl) (by kernel_rfl) (Or.inl ⟨by rfl, ?_⟩) hHeld ?_
            rotate_left
            · intro w hSw; go_simp; with_reducible rfl
            simp only [Act.put, List.setIfInBounds_toArray, List.set_cons_zero, List.set_cons_succ]
            refine take_at 14 136 (v := ?_) rfl rfl (by kernel_rfl) (by kernel_rfl) (by kernel_rfl) (Or.inl ⟨by rfl, ?_⟩) hHeld ?_
            rotate_left
            · intro w hSw; have hc := hSw.2.2; go_simp; with_reducible rfl
            simp only [Act.put, List.setIfInBounds_toArray, List.set_cons_zero, List.set_cons_succ]
            refine wpAnyH_ready (rs := [7]) (by kernel_rfl) (by simp) ?_
            refine AllReadyH.cons rfl (fun K hK => ?_) AllReadyH.nil
            go_simp
            refine ((unhide OD).st.storeL (ok_mono OK.out (by omega)) q.n q.core q.v).mono ?_
            rintro e X1 ⟨rfl, h1, h2⟩
            have O2 := hide ((unhide OD).call (St' := fun w G => Two W w G b y (A.storeZ q.n q.core q.v) A) h1 h2)
            have g := op_cells ((unhide O2).at wr.heap.size (.cells (opRV q) 45) (by simp))
            have s1 : X1.cell? ⟨wr.heap.size, 1, none⟩ = some (.int .i64 q.core) ∧ X1.cell? ⟨wr.heap.size, 3, none⟩ = some (.int .i64 q.n) ∧ X1.cell? ⟨wr.heap.size, 8, none⟩ = some (.int .u64 q.v) := ⟨g.2.1, g.2.2.2.1, g.2.2.2.2.2.1⟩
            clear g h1 h2 OD
            go_wp2_with fail
            refine hK.out _ _ s1 (fun hNew => ?_)
            clear hK K hHeld hNew
            have hHeld := s1
            clear s1
            try simp only [Act.put, List.setIfInBounds_toArray]
            refine wpAnyH_ready (rs := [15]) (by kernel_rfl) (by simp) ?_
            refine AllReadyH.cons rfl (fun K hK => ?_) AllReadyH.nil
            go_simp
            refine ((unhide O2).st.storeR (ok_mono OK.out (by omega)) q.n q.core q.v).mono ?_
            rintro e X2 ⟨rfl, h1, h2⟩
            have O9 := hide ((unhide O2).call (St' := fun w G => Two W w G b y (A.storeZ q.n q.core q.v) (A.storeZ q.n q.core q.v)) h1 h2)
            have OK2 : Hid ((A.storeZ q.n q.core q.v).ok (11 * (k + 1))) := ok_mono (ok_storeZ OK.out q.n q.core q.v (unhide QOK).2.2.2.2.2.1) (by omega)
            have g := op_cells ((unhide O9).at wr.heap.size (.cells (opRV q) 45) (by simp))
            have s1 : X2.cell? ⟨wr.heap.size, 1, none⟩ = some (.int .i64 q.core) ∧ X2.cell? ⟨wr.heap.size, 3, none⟩ = some (.int .i64 q.n) ∧ X2.cell? ⟨wr.heap.size, 8, none⟩ = some (.int .u64 q.v) := ⟨g.2.1, g.2.2.2.1, g.2.2.2.2.2.1⟩
            clear g h1 h2 O2 QOK
            go_wp2_with fail
            refine hK.out _ _ s1 (fun hNew => ?_)
            clear hK K hHeld hNew
            have hHeld := s1
            clear s1
            try simp only [Act.put, List.setIfInBounds_toArray]
            generalize A.storeZ q.n q.core q.v = A2 at *
            refine take_at 16 138 (v := ?_) rfl rfl (by kernel_rfl) (by kernel_rfl) (by kernel_rfl) (Or.inl ⟨by rfl, ?_⟩) hHeld ?_
            rotate_left
            · intro w hSw; go_simp; with_reducible rfl
            simp only [Act.put, List.setIfInBounds_toArray, List.set_cons_zero, List.set_cons_succ]
            refine wpAnyH_done (by kernel_rfl) ?_ _
            refine NoPanic.normal ?_
            clear hHeld
            have f1 := (op_cells ((unhide O9).at wr.heap.size (.cells (opRV q) 45) (by simp))).2.1
            go_wp2_with fail
            refine (unhide CC _).mono ?_
            rintro e V9 ⟨rfl, rfl⟩
            clear f1
            have SA := hide (scan_len A2 (1 + (kc : Int)))
            have S1 := hide ((unhide O9).st.scanL6 (ok_mono (unhide OK2) (by omega)) (1 + (kc : Int)))
            have S2 : Hid (∀ w G, Two W w G b y A2 A2 → Calls Try.prog 29 #[.pointer (some ⟨y, 0, none⟩), .int .i64 (1 + (kc : Int))] w (TScanned W w G b y A2 A2 (A2.scanV (1 + (kc : Int))) (A2.scanE (1 + (kc : Int))))) := fun w G h => h.scanR6 (ok_mono (unhide OK2) (by omega)) _
            generalize A2.scanV (1 + (kc : Int)) = rs at *
            generalize A2.scanE (1 + (kc : Int)) = E at *
            go_wp2_with fail
            refine (unhide S1).mono ?_
            rintro e X1 ⟨v1, rfl, ⟨C1, t1, tr, t3, t4⟩, hs1⟩
            have TR := hide tr
            have T1 := hide t1
            have f1 := (op_cells ((hs1 wr.heap.size (Or.inr ⟨_, List.mem_singleton.2 rfl⟩)).trans ((unhide O9).at wr.heap.size (.cells (opRV q) 45) (by simp)))).2.1
            clear S1 O9 tr t1 t3 t4 hs1
            go_wp2_with fail
            refine (unhide CC _).mono ?_
            rintro e X1 ⟨rfl, rfl⟩
            clear f1
            go_wp2_with fail
            refine (unhide S2 _ _ (unhide T1)).mono ?_
            rintro e X2 ⟨v2, rfl, ⟨C2, r1, rr, r3, r4⟩, hs2⟩
            have o1 : X2.ownsRow W.heap.size 24 4 v1 rs.length (flatR rs) := (recSt_loc _ _ _ _ _ C1 (unhide TR) (fun k hk => hs2 k (Or.inr hk))).2
            have SM := hide (same_rows (unhide SA) o1 rr.2)
            have R1 := hide r1
            clear S2 T1 TR o1 rr r1 r3 r4 hs2 SA
            go_wp2_with fail
            refine (unhide SM).mono ?_
            rintro e X3 ⟨rfl, hk3⟩
            have R3 : Hid (Two W X3 (fun _ => False) b y A2 A2) := ((Two.stay W b y A2 A2).bl _ _ _ (unhide R1) hk3).less (fun k hk => hk.elim)
            clear SM R1 hk3
            have cy := two_count (unhide R3)
            have QS : Hid (∀ q, Calls Try.prog 31 #[.pointer (some ⟨b, 0, none⟩)] (X3.drewN q) fun e w' => e = .returned (.int .i64 (A2.steps : Int)) ∧ w' = X3.drewN q) := fun q => (two_drewN (unhide R3) q).has.steps
            generalize hst : (A2.steps : Int) = stp at cy QS
            clear hst
            go_wp2_with fail
            go_quiet ((go_at_call 31; exact Calls.quiet_of_same (unhide QS _)))
            clear QS cy
            go_wp2_with fail
            exact ⟨⟨k + 1, A2, by omega, by omega, congrArg (Value.int .i64) (by omega), two_drewN (unhide R3) _, unhide OK2⟩, by simp [intOf]; omega⟩
          · have h7z : ¬ (kd : Int) = 7 := by omega
            have g := op_cells ((unhide O1).at wr.heap.size (.cells (opRV q) 45) (by simp))
            have f1 := g.2.1
            have f2 := g.2.2.1
            clear g
            go_wp2_with fail
            refine ((unhide O1).st.freeL6 (ok_mono OK.out (by omega)) q.core q.seq).mono ?_
            rintro e V1 ⟨rfl, h1, h2⟩
            have O2 := hide ((unhide O1).call (St' := fun w G => Two W w G b y A A) h1 h2)
            clear h1 h2 O1 f1 f2
            have g := op_cells ((unhide O2).at wr.heap.size (.cells (opRV q) 45) (by simp))
            have f1 := g.2.1
            have f2 := g.2.2.1
            clear g
            go_wp2_with fail
            refine ((unhide O2).st.freeR6 (ok_mono OK.out (by omega)) q.core q.seq).mono ?_
            rintro e V2 ⟨rfl, h1, h2⟩
            have O3 := hide ((unhide O2).call (St' := fun w G => Two W w G b y A A) h1 h2)
            clear h1 h2 O2 f1 f2
            have g := op_cells ((unhide O3).at wr.heap.size (.cells (opRV q) 45) (by simp))
            have HG1 : Hid (V2.drew.cell? ⟨wr.heap.size, 1, none⟩ = some (.int .i64 q.core) ∧ V2.drew.cell? ⟨wr.heap.size, 2, none⟩ = some (.int .i64 q.seq) ∧ V2.drew.rangeAt wr.heap.size 4 (rv q.r).toList) := ⟨g.2.1, g.2.2.1, g.2.2.2.2.1⟩
            clear g
            generalize A.freeV q.core q.seq = fv at *
            generalize A.freeE q.core q.seq = fe at *
            go_wp2_with fail
            refine wp_region_noPanic ?_
            refine wp_region_held_drew (S := fun w' => w'.cell? ⟨wr.heap.size, 1, none⟩ = some (.int .i64 q.core) ∧ w'.cell? ⟨wr.heap.size, 2, none⟩ = some (.int .i64 q.seq) ∧ w'.rangeAt wr.heap.size 4 (rv q.r).toList) (by kernel_rfl) (unhide HG1) (fun hHeld => ?_)
            have OD := hide ((unhide O3).keeps (Two.stay W b y A A) (w' := V2.drew) ⟨rfl, rfl, rfl, Nat.le_refl _, fun _ _ _ => rfl⟩)
            clear HG1 O3
            generalize V2.drew = X at *
            refine take_at 0 73 (v := ?_) rfl rfl (by kernel_rfl) (by kernel_rfl) (by kernel_rfl) (Or.inl ⟨by rfl, ?_⟩) hHeld ?_
            rotate_left
            · intro w hSw; go_simp; with_reducible rfl
            simp only [Act.put, List.setIfInBounds_toArray, List.set_cons_zero, List.set_cons_succ]
            refine take_at 1 74 (v := ?_) rfl rfl (by kernel_rfl) (by kernel_rfl) (by kernel_rfl) (Or.inl ⟨by rfl, ?_⟩) hHeld ?_
            rotate_left
            · intro w hSw; go_simp; with_reducible rfl
            simp only [Act.put, List.setIfInBounds_toArray, List.set_cons_zero, List.set_cons_succ]
            refine take_at 2 75 (v := ?_) rfl rfl (by kernel_rfl) (by kernel_rfl) (by kernel_rfl) (Or.inl ⟨by rfl, ?_⟩) hHeld ?_
            rotate_left
            · intro w hSw; go_simp; with_reducible rfl
            simp only [Act.put, List.setIfInBounds_toArray, List.set_cons_zero, List.set_cons_succ]
            refine take_at 3 76 (v := ?_) rfl rfl (by kernel_rfl) (by kernel_rfl) (by kernel_rfl) (Or.inl ⟨by rfl, ?_⟩) hHeld ?_
            rotate_left
            · intro w hSw; go_simp; with_reducible rfl
            simp only [Act.put, List.setIfInBounds_toArray, List.set_cons_zero, List.set_cons_succ]
            refine take_at 4 77 (v := ?_) rfl rfl (by kernel_rfl) (by kernel_rfl) (by kernel_rfl) (Or.inl ⟨by rfl, ?_⟩) hHeld ?_
            rotate_left
            · intro w hSw; go_simp; with_reducible rfl
            simp only [Act.put, List.setIfInBounds_toArray, List.set_cons_zero, List.set_cons_succ]
            refine take_at 5 78 (v := ?_) rfl rfl (by kernel_rfl) (by kernel_rfl) (by kernel_rfl) (Or.inl ⟨by rfl, ?_⟩) hHeld ?_
            rotate_left
            · intro w hSw; go_simp; with_reducible rfl
            simp only [Act.put, List.setIfInBounds_toArray, List.set_cons_zero, List.set_cons_succ]
            refine take_at 6 79 (v := ?_) rfl rfl (by kernel_rfl) (by kernel_rfl) (by kernel_rfl) (Or.inl ⟨by rfl, ?_⟩) hHeld ?_
            rotate_left
            · intro w hSw; go_simp; with_reducible rfl
            simp only [Act.put, List.setIfInBounds_toArray, List.set_cons_zero, List.set_cons_succ]
            refine take_at 7 80 (v := ?_) rfl rfl (by kernel_rfl) (by kernel_rfl) (by kernel_rfl) (Or.inl ⟨by rfl, ?_⟩) hHeld ?_
            rotate_left
            · intro w hSw; go_simp; with_reducible rfl
            simp only [Act.put, List.setIfInBounds_toArray, List.set_cons_zero, List.set_cons_succ]
            refine take_at 8 81 (v := ?_) rfl rfl (by kernel_rfl) (by kernel_rfl) (by kernel_rfl) (Or.inl ⟨by rfl, ?_⟩) hHeld ?_
            rotate_left
            · intro w hSw; go_simp; with_reducible rfl
            simp only [Act.put, List.setIfInBounds_toArray, List.set_cons_zero, List.set_cons_succ]
            refine take_at 9 82 (v := ?_) rfl rfl (by kernel_rfl) (by kernel_rfl) (by kernel_rfl) (Or.inl ⟨by rfl, ?_⟩) hHeld ?_
            rotate_left
            · intro w hSw; go_simp; with_reducible rfl
            simp only [Act.put, List.setIfInBounds_toArray, List.set_cons_zero, List.set_cons_succ]
            refine take_at 10 83 (v := ?_) rfl rfl (by kernel_rfl) (by kernel_rfl) (by kernel_rfl) (Or.inl ⟨by rfl, ?_⟩) hHeld ?_
            rotate_left
            · intro w hSw; go_simp; with_reducible rfl
            simp only [Act.put, List.setIfInBounds_toArray, List.set_cons_zero, List.set_cons_succ]
            refine take_at 11 84 (v := ?_) rfl rfl (by kernel_rfl) (by kernel_rfl) (by kernel_rfl) (Or.inl ⟨by rfl, ?_⟩) hHeld ?_
            rotate_left
            · intro w hSw; have hc := hSw.1; go_simp; with_reducible rfl
            simp only [Act.put, List.setIfInBounds_toArray, List.set_cons_zero, List.set_cons_succ]
            refine take_at 12 85 (v := ?_) rfl rfl (by kernel_rfl) (by kernel_rfl) (by kernel_rfl) (Or.inl ⟨by rfl, ?_⟩) hHeld ?_
            rotate_left
            · intro w hSw; go_simp; with_reducible rfl
            simp only [Act.put, List.setIfInBounds_toArray, List.set_cons_zero, List.set_cons_succ]
            refine take_at 13 86 (v := ?_) rfl rfl (by kernel_rfl) (by kernel_rfl) (by kernel_rfl) (Or.inl ⟨by rfl, ?_⟩) hHeld ?_
            rotate_left
            · intro w hSw; have hc := hSw.2.1; go_simp; with_reducible rfl
            simp only [Act.put, List.setIfInBounds_toArray, List.set_cons_zero, List.set_cons_succ]
            refine take_at 14 87 (v := ?_) rfl rfl (by kernel_rfl) (by kernel_rfl) (by kernel_rfl) (Or.inl ⟨by rfl, ?_⟩) hHeld ?_
            rotate_left
            · intro w hSw; go_simp; with_reducible rfl
            simp only [Act.put, List.setIfInBounds_toArray, List.set_cons_zero, List.set_cons_succ]
            refine take_at 15 88 rfl rfl (by kernel_rfl) (by kernel_rfl) (by kernel_rfl) (yieldsIf_load_mid (by rfl) 24 (.tmp 87) rfl wr.heap.size 4 rfl (rv q.r).toList _ (fun w h => h.2.2) Try.underlying24 rfl size4R) hHeld ?_
            simp only [Act.put, List.setIfInBounds_toArray, List.set_cons_zero, List.set_cons_succ]
            refine take_at 17 90 (v := ?_) rfl rfl (by kernel_rfl) (by kernel_rfl) (by kernel_rfl) (Or.inl ⟨by rfl, ?_⟩) hHeld ?_
            rotate_left
            · intro w hSw; go_simp; with_reducible rfl
            simp only [Act.put, List.setIfInBounds_toArray, List.set_cons_zero, List.set_cons_succ]
            refine take_at 18 91 (v := ?_) rfl rfl (by kernel_rfl) (by kernel_rfl) (by kernel_rfl) (Or.inl ⟨by rfl, ?_⟩) hHeld ?_
            rotate_left
            · intro w hSw; go_simp; with_reducible rfl
            simp only [Act.put, List.setIfInBounds_toArray, List.set_cons_zero, List.set_cons_succ]
            refine take_at 19 92 (v := ?_) rfl rfl (by kernel_rfl) (by kernel_rfl) (by kernel_rfl) (Or.inl ⟨by rfl, ?_⟩) hHeld ?_
            rotate_left
            · intro w hSw; have hc := hSw.1; go_simp; with_reducible rfl
            simp only [Act.put, List.setIfInBounds_toArray, List.set_cons_zero, List.set_cons_succ]
            refine take_at 20 93 (v := ?_) rfl rfl (by kernel_rfl) (by kernel_rfl) (by kernel_rfl) (Or.inl ⟨by rfl, ?_⟩) hHeld ?_
            rotate_left
            · intro w hSw; go_simp; with_reducible rfl
            simp only [Act.put, List.setIfInBounds_toArray, List.set_cons_zero, List.set_cons_succ]
            refine take_at 21 94 (v := ?_) rfl rfl (by kernel_rfl) (by kernel_rfl) (by kernel_rfl) (Or.inl ⟨by rfl, ?_⟩) hHeld ?_
            rotate_left
            · intro w hSw; have hc := hSw.2.1; go_simp; with_reducible rfl
            simp only [Act.put, List.setIfInBounds_toArray, List.set_cons_zero, List.set_cons_succ]
            refine take_at 22 95 (v := ?_) rfl rfl (by kernel_rfl) (by kernel_rfl) (by kernel_rfl) (Or.inl ⟨by rfl, ?_⟩) hHeld ?_
            rotate_left
            · intro w hSw; go_simp; with_reducible rfl
            simp only [Act.put, List.setIfInBounds_toArray, List.set_cons_zero, List.set_cons_succ]
            refine take_at 23 96 rfl rfl (by kernel_rfl) (by kernel_rfl) (by kernel_rfl) (yieldsIf_load_mid (by rfl) 24 (.tmp 95) rfl wr.heap.size 4 rfl (rv q.r).toList _ (fun w h => h.2.2) Try.underlying24 rfl size4R) hHeld ?_
            simp only [Act.put, List.setIfInBounds_toArray, List.set_cons_zero, List.set_cons_succ]
            try rw [show (rv q.r).toList.toArray = rv q.r from rfl]
            refine wpAnyH_ready (rs := [16]) (by kernel_rfl) (by simp) ?_
            refine AllReadyH.cons rfl (fun K hK => ?_) AllReadyH.nil
            go_simp
            refine ((unhide OD).st.appL6 (ok_mono OK.out (by omega)) q.core q.seq q.r (isRec_ok (unhide QOK).2.2.2.2.1)).mono ?_
            rintro e X1 ⟨rfl, h1, h2⟩
            have O2 := hide ((unhide OD).call (St' := fun w G => Two W w G b y (A.appZ q.core q.seq q.r) A) h1 h2)
            have g := op_cells ((unhide O2).at wr.heap.size (.cells (opRV q) 45) (by simp))
            have s1 : X1.cell? ⟨wr.heap.size, 1, none⟩ = some (.int .i64 q.core) ∧ X1.cell? ⟨wr.heap.size, 2, none⟩ = some (.int .i64 q.seq) ∧ X1.rangeAt wr.heap.size 4 (rv q.r).toList := ⟨g.2.1, g.2.2.1, g.2.2.2.2.1⟩
            clear g h1 h2 OD
            go_wp2_with fail
            refine hK.out _ _ s1 (fun hNew => ?_)
            clear hK K hHeld hNew
            have hHeld := s1
            clear s1
            try simp only [Act.put, List.setIfInBounds_toArray]
            refine wpAnyH_ready (rs := [24]) (by kernel_rfl) (by simp) ?_
            refine AllReadyH.cons rfl (fun K hK => ?_) AllReadyH.nil
            go_simp
            refine ((unhide O2).st.appR6 (ok_mono OK.out (by omega)) q.core q.seq q.r (isRec_ok (unhide QOK).2.2.2.2.1)).mono ?_
            rintro e X2 ⟨rfl, h1, h2⟩
            have O9 := hide ((unhide O2).call (St' := fun w G => Two W w G b y (A.appZ q.core q.seq q.r) (A.appZ q.core q.seq q.r)) h1 h2)
            have OK2 : Hid ((A.appZ q.core q.seq q.r).ok (11 * (k + 1))) := ok_mono (ok_appZ OK.out q.core q.seq q.r (isRec_ok (unhide QOK).2.2.2.2.1)) (by omega)
            have g := op_cells ((unhide O9).at wr.heap.size (.cells (opRV q) 45) (by simp))
            have s1 : X2.cell? ⟨wr.heap.size, 1, none⟩ = some (.int .i64 q.core) ∧ X2.cell? ⟨wr.heap.size, 2, none⟩ = some (.int .i64 q.seq) ∧ X2.rangeAt wr.heap.size 4 (rv q.r).toList := ⟨g.2.1, g.2.2.1, g.2.2.2.2.1⟩
            clear g h1 h2 O2 QOK
            go_wp2_with fail
            refine hK.out _ _ s1 (fun hNew => ?_)
            clear hK K hHeld hNew
            have hHeld := s1
            clear s1
            try simp only [Act.put, List.setIfInBounds_toArray]
            generalize A.appZ q.core q.seq q.r = A2 at *
            generalize A.appE q.core q.seq q.r = ea at *
            refine take_at 25 98 (v := ?_) rfl rfl (by kernel_rfl) (by kernel_rfl) (by kernel_rfl) (Or.inl ⟨by rfl, ?_⟩) hHeld ?_
            rotate_left
            · intro w hSw; go_simp; with_reducible rfl
            simp only [Act.put, List.setIfInBounds_toArray, List.set_cons_zero, List.set_cons_succ]
            refine take_at 26 99 (v := ?_) rfl rfl (by kernel_rfl) (by kernel_rfl) (by kernel_rfl) (Or.inl ⟨by rfl, ?_⟩) hHeld ?_
            rotate_left
            · intro w hSw; go_simp; with_reducible rfl
            simp only [Act.put, List.setIfInBounds_toArray, List.set_cons_zero, List.set_cons_succ]
            refine wpAnyH_done (by kernel_rfl) ?_ _
            refine NoPanic.normal ?_
            clear hHeld
            have f1 := (op_cells ((unhide O9).at wr.heap.size (.cells (opRV q) 45) (by simp))).2.1
            go_wp2_with fail
            refine (unhide CC _).mono ?_
            rintro e V9 ⟨rfl, rfl⟩
            clear f1
            have SA := hide (scan_len A2 (1 + (kc : Int)))
            have S1 := hide ((unhide O9).st.scanL6 (ok_mono (unhide OK2) (by omega)) (1 + (kc : Int)))
            have S2 : Hid (∀ w G, Two W w G b y A2 A2 → Calls Try.prog 29 #[.pointer (some ⟨y, 0, none⟩), .int .i64 (1 + (kc : Int))] w (TScanned W w G b y A2 A2 (A2.scanV (1 + (kc : Int))) (A2.scanE (1 + (kc : Int))))) := fun w G h => h.scanR6 (ok_mono (unhide OK2) (by omega)) _
            generalize A2.scanV (1 + (kc : Int)) = rs at *
            generalize A2.scanE (1 + (kc : Int)) = E at *
            go_wp2_with fail
            refine (unhide S1).mono ?_
            rintro e X1 ⟨v1, rfl, ⟨C1, t1, tr, t3, t4⟩, hs1⟩
            have TR := hide tr
            have T1 := hide t1
            have f1 := (op_cells ((hs1 wr.heap.size (Or.inr ⟨_, List.mem_singleton.2 rfl⟩)).trans ((unhide O9).at wr.heap.size (.cells (opRV q) 45) (by simp)))).2.1
            clear S1 O9 tr t1 t3 t4 hs1
            go_wp2_with fail
            refine (unhide CC _).mono ?_
            rintro e X1 ⟨rfl, rfl⟩
            clear f1
            go_wp2_with fail
            refine (unhide S2 _ _ (unhide T1)).mono ?_
            rintro e X2 ⟨v2, rfl, ⟨C2, r1, rr, r3, r4⟩, hs2⟩
            have o1 : X2.ownsRow W.heap.size 24 4 v1 rs.length (flatR rs) := (recSt_loc _ _ _ _ _ C1 (unhide TR) (fun k hk => hs2 k (Or.inr hk))).2
            have SM := hide (same_rows (unhide SA) o1 rr.2)
            have R1 := hide r1
            clear S2 T1 TR o1 rr r1 r3 r4 hs2 SA
            go_wp2_with fail
            refine (unhide SM).mono ?_
            rintro e X3 ⟨rfl, hk3⟩
            have R3 : Hid (Two W X3 (fun _ => False) b y A2 A2) := ((Two.stay W b y A2 A2).bl _ _ _ (unhide R1) hk3).less (fun k hk => hk.elim)
            clear SM R1 hk3
            have cy := two_count (unhide R3)
            have QS : Hid (∀ q, Calls Try.prog 31 #[.pointer (some ⟨b, 0, none⟩)] (X3.drewN q) fun e w' => e = .returned (.int .i64 (A2.steps : Int)) ∧ w' = X3.drewN q) := fun q => (two_drewN (unhide R3) q).has.steps
            generalize hst : (A2.steps : Int) = stp at cy QS
            clear hst
            go_wp2_with fail
            go_quiet ((go_at_call 31; exact Calls.quiet_of_same (unhide QS _)))
            clear QS cy
            go_wp2_with fail
            exact ⟨⟨k + 1, A2, by omega, by omega, congrArg (Value.int .i64) (by omega), two_drewN (unhide R3) _, unhide OK2⟩, by simp [intOf]; omega⟩
    · have H1 := hide (HA.out.scanL6 (ok_mono OK.out (by omega)) 0)
      have e0 : A.scanE 0 = 1 := by unfold Mm.scanE; rw [if_neg (by unfold isCores; omega)]
      have e9 : A.scanE 9 = 1 := by unfold Mm.scanE; rw [if_neg (by unfold isCores; omega)]
      rw [e0] at H1
      have H9 : Hid (∀ w G, Two W w G b y A A → Calls Try.prog 28 #[.pointer (some ⟨b, 0, none⟩), .int .i64 9] w (TScanned W w G b y A A (A.scanV 9) 1)) := fun w G h => by
        have := h.scanL6 (ok_mono OK.out (by omega)) 9
        rw [e9] at this
        exact this
      clear e0 e9 HA
      by_cases hl1 : k < n
      · have hl1z : (k : Int) < (n : Int) := by omega
        have hl2z : ¬ (k : Int) < 60 := by omega
        clear hlt
        go_wp2_with fail
        refine (unhide H1).mono ?_
        rintro e X1 ⟨v1, rfl, ⟨C1, t1, -, -, -⟩, -⟩
        have T1 := hide t1
        clear t1 H1
        go_wp2_with fail
        refine (unhide H9 _ _ (unhide T1)).mono ?_
        rintro e X2 ⟨v2, rfl, ⟨C2, r1, -, -, -⟩, -⟩
        have K2 := hide (Two.keeps r1)
        clear r1 T1 H9
        go_wp2_with fail
        go_ret
        exact ⟨rfl, Keeps.asBelow (unhide K2)⟩
      · have hl1z : ¬ (k : Int) < (n : Int) := by omega
        clear hlt
        go_wp2_with fail
        refine (unhide H1).mono ?_
        rintro e X1 ⟨v1, rfl, ⟨C1, t1, -, -, -⟩, -⟩
        have T1 := hide t1
        clear t1 H1
        go_wp2_with fail
        refine (unhide H9 _ _ (unhide T1)).mono ?_
        rintro e X2 ⟨v2, rfl, ⟨C2, r1, -, -, -⟩, -⟩
        have K2 := hide (Two.keeps r1)
        clear r1 T1 H9
        go_wp2_with fail
        go_ret
        exact ⟨rfl, Keeps.asBelow (unhide K2)⟩

set_option maxRecDepth 100000 in
theorem lifted (os : Os) (started : os.Started) (H : Type) (enc : TypeId × Value → H) :
    ReturnsInHanded {} Try.checked os 5 .any (Rows.rlogPlaysSpec.pre6 enc Try.prog Try.f5 Rows.rlogPlaysRow.domain false) (Rows.rlogPlaysSpec.post enc Try.prog Try.f5 false true false false) := by
  refine law_frame (C := Try.checked) (ts := [36]) (tb := 4) (by kernel_rfl) started (by kernel_rfl) Try.func5 Try.params5 (by kernel_rfl) Try.underlying4 (by kernel_rfl) (by kernel_rfl) rfl ?_
    (ChangeSpec.witness6 (enc := enc) (C := Try.checked) false ⟨#[], #[.slice none 0 0], []⟩ 8 (by kernel_rfl) (by kernel_rfl) (by kernel_rfl) (by kernel_rfl)) ?_
  · intro ds hd
    match ds, hd with
    | [d0], _ => rfl
  · intro W base args ds p hval hA
    obtain ⟨v0, vs0, d0, ds0, p0, q0, hargs, rfl, rfl, h0, r0⟩ := trodAll_cons hA
    obtain ⟨rfl, rfl, rfl⟩ := trodAll_nil r0
    obtain rfl : args = #[v0] := by cases args; simp_all
    obtain ⟨a, n, cap, o, rfl, h⟩ := open_opsR (hval 0 36 v0 rfl rfl) h0
    exact walk W a n cap o h

theorem over : Rows.rlogPlaysRow.holds Try.pinned (OpenSpec.ofChange Rows.rlogPlaysSpec) :=
  OpenClaim.holds_of_wide 5 Try.f5 rfl rfl rfl rfl rfl rfl rfl ⟨rfl, rfl, rfl, rfl, rfl⟩ rfl rfl rfl rfl rfl (by kernel_rfl) Try.func5 (by kernel_rfl)
    (of_decide_eq_true (by kernel_rfl)) (by unfold Func.isWrapper; first | (rw [if_pos (by decide +kernel)]; kernel_rfl) | (rw [if_neg (by decide +kernel)]; exact ⟨rfl, rfl⟩))
    (fun os started H enc _ => lifted os started H enc)

end Go.Proofs.Ytjidekjeibdbgaa.rlogPlays
namespace Go.Proofs.Ytjidekjeibdbgaa
theorem rlogPlays_holds : Rows.RlogPlaysSaid := rlogPlays.over
end Go.Proofs.Ytjidekjeibdbgaa
