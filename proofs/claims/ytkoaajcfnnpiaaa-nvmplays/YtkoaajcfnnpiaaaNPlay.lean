/-
  For every number of lines and every row of calls, NvmPlays returns true and leaves its arguments as they were: a memory does any calls as the document says, clones too; what is told is the caller's. No condition.
-/
import Derived.Test.YtkoaajcfnnpiaaaNDoesAll
import Derived.Test.YtkoaajcfnnpiaaaLaw
import Derived.Test.YtkoaajcfnnpiaaaRows
namespace Go.Proofs.Ytkoaajcfnnpiaaa.nvmPlays
open Go.ChangeShapes Go.WideShapes Go.ChangeAt Go.RowKit Go.Joins
set_option linter.unusedVariables false
set_option linter.unusedSimpArgs false

/-- A line of two words built, its cells said. -/
theorem wpList_buildV2 {ops : Array Oper} {rest : List Oper} {o : Oper} {a : Act} {w : World} {Q : Exit → Act → World → Prop} (hw : Region.wanted o (yielded ops a.tmps) = true) (x x' : Operand) (ho : o.op = .build 50 #[(0, x), (1, x')]) (u u' : Value) (hx : a.eval x = u) (hx' : a.eval x' = u') (cs : Array Value)
    (hb : Try.prog.built 50 [(0, u), (1, u')] = some cs) (h : wpList Try.prog ops Q rest (a.put o.dst (.agg cs)) w) : wpList Try.prog ops Q (o :: rest) a w :=
  wpList_step fun K hK => by
    rw [if_pos hw]
    have h2 := run_build (P := Try.prog) w 50 #[(0, u), (1, u')] cs hb
    unfold Oper.wp execOp
    simp only [ho, Sem.run_bind]
    rw [show (#[((0 : Nat), x), (1, x')].map fun p => (p.1, a.eval p.2)) = #[(0, u), (1, u')] by simp [hx, hx'], h2]
    exact hK _ _ h


theorem linesAt_keeps {w w' : World} {a : Option Addr} {n : Nat} {s : Nat → Nat → Int} (h : LinesAt w a n s) (hk : Keeps (fun _ => False) w w') : LinesAt w' a n s := by
  rcases h with h | ⟨b, off, e, h⟩
  · exact Or.inl h
  · exact Or.inr ⟨b, off, e, fun i hi => rangeAt_keeps (h i hi) hk id⟩

set_option maxRecDepth 100000 in
set_option maxHeartbeats 2000000 in
theorem walk (W : World) (z : Int) (a : Option Addr) (n cap : Nat) (o : Nat → OpV) (wz : (Lit.int .i64 z).wf = true) (hO : OpsAt W a n cap o) :
    Calls Try.prog 3 #[.int .i64 z, .slice a n cap] W fun e W' => e = .returned (.bool true) ∧ Below W.heap.size W W' := by
  obtain ⟨hn, hops⟩ := hO
  have HO := hide hops
  clear hops
  by_cases hgood : 64 ≤ z ∧ z ≤ 1024
  · obtain ⟨N, rfl⟩ : ∃ N : Nat, z = (N : Int) := ⟨z.toNat, by omega⟩
    have hN1 : 64 ≤ N := by omega
    have hN2 : N ≤ 1024 := by omega
    clear hgood wz
    go_enter Try.func3, Try.ntmps3
    go_wp2_with fail
    refine (shown_any W).mono ?_
    rintro e w0 ⟨rfl, hk0⟩
    go_wp2_with fail
    refine (new_any w0 N hN1 hN2).mono ?_
    intro e w1 hm
    obtain ⟨p, rfl, h0, -⟩ := made_has W hk0 hm (fun _ => False) (fun _ h => h.elim)
    have H0 := hide h0
    clear hm h0 hk0
    go_wp2_with fail
    refine (rnew_any w1 N hN1 hN2).mono ?_
    rintro e w2 ⟨y, gs, cs, gl, F', ads, caps, rfl, hr, hk2, hF⟩
    have H2 : Hid (Two W w2 (fun _ => False) p y (Mm.new N fun _ _ => 0) (Mm.new N fun _ _ => 0)) := Two.made (unhide H0) hr hk2 hF
    clear H0 hr hk2 hF
    go_wp2_with fail
    go_loopw [6, 10] (fun pm i wr => ∃ (k b : Nat) (A : Mm), k ≤ n ∧ k ≤ 120 ∧ pm = .pointer (some ⟨b, 0, none⟩) ∧ i = .int .i64 k ∧ Two W wr (fun _ => False) b y A A ∧ A.ok k ∧ A.n = N) (fun _ i _ => n - (intOf i).toNat)
    case atStart => exact ⟨0, p, _, by omega, by omega, rfl, rfl, unhide H2, ok_new hN1 hN2 (fun _ _ => ⟨by decide, by decide⟩), rfl⟩
    case round =>
      clear H2
      obtain ⟨k, b, A, hk, hk120, rfl, rfl, hA, hok, hAn⟩ := hrel
      have HA := hide hA
      have OK := hide hok
      have AN := hide hAn
      clear hA hok hAn
      by_cases hlt : k < n ∧ k < 120
      · obtain ⟨hlt, hl8⟩ := hlt
        obtain ⟨x, off, rfl, hx⟩ : ∃ b off, a = some ⟨b, off, none⟩ ∧ ∀ i, i < n → OpAt W b (off + i * 6) (o i) := by
          rcases unhide HO with h | h
          · omega
          · exact h
        obtain ⟨u1, u2⟩ := hx k hlt
        generalize o k = q at u1 u2
        have QOK : Hid (OpOk W q) := u2
        have RQ : Hid (W.rangeAt x (off + k * 6) (opV q).toList) := u1
        have s6 : (Try.prog.info? 35).map (·.size) = some (opV q).toList.length := by rw [Array.length_toList, opV_size]; exact osize
        have c0 : wr.cell? ⟨x, off + k * 6, none⟩ = some (.int .i64 q.kind) := by
          have := (rangeAt_keeps u1 (unhide HA).keeps id) 0 (.int .i64 q.kind) rfl
          exact this
        have hlt' : (k : Int) < (n : Int) := by omega
        have hl8' : (k : Int) < 120 := by omega
        obtain ⟨kd, hkd⟩ : ∃ kd, kd = kindN q.kind 12 := ⟨_, rfl⟩
        have CK : Hid (Calls Try.prog 12 #[.int .i64 q.kind, .int .i64 12] wr fun e w' => e = .returned (.int .i64 (kd : Int)) ∧ w' = wr) := by rw [hkd]; exact kind_any q.kind (unhide QOK).1 12 (by decide) (by decide) _
        clear u1 u2 hx hkd
        go_wp2_with fail
        refine (unhide CK).mono ?_
        rintro e wr ⟨rfl, rfl⟩
        clear CK c0
        by_cases hk11 : kd = 11
        · subst hk11
          go_wp2_with fail
          refine ((unhide HA).clone (ok_mono (unhide OK) (by omega))).mono ?_
          rintro e V1 ⟨b2, G2, rfl, h1, -, -, hback⟩
          have H1 := hide h1
          have BK := hide hback
          clear h1 hback HA
          have O1 := hide (ok_storeZ (unhide OK) 1 1 77 ⟨by decide, by decide⟩)
          have O2 := hide (ok_flushZ (unhide O1) 0 1)
          have O3 := hide (ok_fenceZ (unhide O2) 0)
          go_wp2_with fail
          refine ((unhide H1).storeZ (ok_mono (unhide OK) (by omega)) 1 1 77).mono ?_
          rintro e V2 ⟨rfl, h2, hs2⟩
          have H2 := hide h2
          have S2 := hide hs2
          clear h2 hs2 H1
          generalize A.storeE 1 1 = e1
          go_wp2_with fail
          refine ((unhide H2).flushZ (ok_mono (unhide O1) (by omega)) 0 1).mono ?_
          rintro e V3 ⟨rfl, h3, hs3⟩
          have H3 := hide h3
          have S3 : Hid (Same G2 V1 V3) := (unhide S2).trans hs3
          clear h3 hs3 H2 S2
          generalize (A.storeZ 1 1 77).flushE 0 1 = e2
          go_wp2_with fail
          refine ((unhide H3).fenceZ (ok_mono (unhide O2) (by omega)) 0).mono ?_
          rintro e V4 ⟨rfl, h4, hs4⟩
          have H4 := hide h4
          have S4 : Hid (Same G2 V1 V4) := (unhide S3).trans hs4
          clear h4 hs4 H3 S3
          generalize ((A.storeZ 1 1 77).flushZ 0 1).fenceE 0 = e3
          go_wp2_with fail
          refine ((unhide H4).crash_nil (ok_mono (unhide O3) (by omega))).mono ?_
          rintro e U ⟨rfl, h5, hs5⟩
          have HU : Hid (Two W U (fun _ => False) b2 y A A) := unhide BK U _ h5 ((unhide S4).trans hs5)
          clear h5 hs5 H4 S4 BK O1 O2 O3
          generalize b2 = b at HU ⊢
          have HQ : Hid (U.rangeAt x (off + k * 6) (opV q).toList) := rangeAt_keeps (unhide RQ) (unhide HU).keeps id
          go_wp2_with (refine wpList_load_mid rfl 35 _ rfl x (off + k * 6) rfl _ _ (unhide HQ) Try.underlying35 rfl s6 ?_)
          have hz : (opV q).toList.toArray = opV q := rfl
          first | rw [hz] | skip
          clear hz
          refine (does_any (unhide HU) (ok_mono (unhide OK) (by omega)) q (unhide QOK)).mono ?_
          rintro e V ⟨rfl, h1, -⟩
          have H1 := hide h1
          have OK1 : Hid ((A.does q).ok (k + 1)) := ok_does (unhide OK) q (unhide QOK)
          have AN1 : Hid ((A.does q).n = N) := (does_n A q).trans (unhide AN)
          obtain ⟨A1, hA1⟩ : ∃ A1, A1 = A.does q := ⟨_, rfl⟩
          rw [← hA1] at H1 OK1 AN1
          clear h1 hA1 HU HQ
          obtain ⟨gs, cs, d0, d2, d4, -⟩ := (unhide H1).head
          rw [unhide AN1] at d0
          have QO : Hid (∀ q, Calls Try.prog 19 #[.pointer (some ⟨b, 0, none⟩)] (V.drewN q) fun e w' => e = .returned (.bool A1.on) ∧ w' = V.drewN q) := fun q => ((unhide H1).drewN q).isOn
          have QS : Hid (∀ q, Calls Try.prog 20 #[.pointer (some ⟨b, 0, none⟩)] (V.drewN q) fun e w' => e = .returned (.int .i64 (A1.steps : Int)) ∧ w' = V.drewN q) := fun q => ((unhide H1).drewN q).steps
          have QL : Hid (∀ q, Calls Try.prog 21 #[.pointer (some ⟨b, 0, none⟩)] (V.drewN q) fun e w' => e = .returned (.int .i64 (N : Int)) ∧ w' = V.drewN q) := fun q => by rw [← unhide AN1]; exact ((unhide H1).drewN q).lines
          generalize (A1.steps : Int) = st at d4 QS
          generalize A1.on = onb at d2 QO
          have hon : (onb == !onb) = false := by cases onb <;> rfl
          cases onb
          all_goals
            clear hon
            go_wp2_with fail
            go_quiet ((first | (go_at_call 19; exact Calls.quiet_of_same (unhide QO _)) | (go_at_call 20; exact Calls.quiet_of_same (unhide QS _)) | (go_at_call 21; exact Calls.quiet_of_same (unhide QL _))))
            clear QO QS QL d0 d2 d4
            go_wp2_with fail
            go_roundw
            case rel => exact ⟨k + 1, b, A1, by omega, by omega, rfl, by go_num, (unhide H1).drewN _, unhide OK1, unhide AN1⟩
            case measure => simp [intOf]; omega
        · have hk11' : ((kd : Int) == 11) = false := by simp; omega
          have HU := HA
          clear HA hk11
          generalize wr = U at HU ⊢
          have HQ : Hid (U.rangeAt x (off + k * 6) (opV q).toList) := rangeAt_keeps (unhide RQ) (unhide HU).keeps id
          go_wp2_with (refine wpList_load_mid rfl 35 _ rfl x (off + k * 6) rfl _ _ (unhide HQ) Try.underlying35 rfl s6 ?_)
          have hz : (opV q).toList.toArray = opV q := rfl
          first | rw [hz] | skip
          clear hz
          refine (does_any (unhide HU) (ok_mono (unhide OK) (by omega)) q (unhide QOK)).mono ?_
          rintro e V ⟨rfl, h1, -⟩
          have H1 := hide h1
          have OK1 : Hid ((A.does q).ok (k + 1)) := ok_does (unhide OK) q (unhide QOK)
          have AN1 : Hid ((A.does q).n = N) := (does_n A q).trans (unhide AN)
          obtain ⟨A1, hA1⟩ : ∃ A1, A1 = A.does q := ⟨_, rfl⟩
          rw [← hA1] at H1 OK1 AN1
          clear h1 hA1 HU HQ
          obtain ⟨gs, cs, d0, d2, d4, -⟩ := (unhide H1).head
          rw [unhide AN1] at d0
          have QO : Hid (∀ q, Calls Try.prog 19 #[.pointer (some ⟨b, 0, none⟩)] (V.drewN q) fun e w' => e = .returned (.bool A1.on) ∧ w' = V.drewN q) := fun q => ((unhide H1).drewN q).isOn
          have QS : Hid (∀ q, Calls Try.prog 20 #[.pointer (some ⟨b, 0, none⟩)] (V.drewN q) fun e w' => e = .returned (.int .i64 (A1.steps : Int)) ∧ w' = V.drewN q) := fun q => ((unhide H1).drewN q).steps
          have QL : Hid (∀ q, Calls Try.prog 21 #[.pointer (some ⟨b, 0, none⟩)] (V.drewN q) fun e w' => e = .returned (.int .i64 (N : Int)) ∧ w' = V.drewN q) := fun q => by rw [← unhide AN1]; exact ((unhide H1).drewN q).lines
          generalize (A1.steps : Int) = st at d4 QS
          generalize A1.on = onb at d2 QO
          have hon : (onb == !onb) = false := by cases onb <;> rfl
          cases onb
          all_goals
            clear hon
            go_wp2_with fail
            go_quiet ((first | (go_at_call 19; exact Calls.quiet_of_same (unhide QO _)) | (go_at_call 20; exact Calls.quiet_of_same (unhide QS _)) | (go_at_call 21; exact Calls.quiet_of_same (unhide QL _))))
            clear QO QS QL d0 d2 d4
            go_wp2_with fail
            go_roundw
            case rel => exact ⟨k + 1, b, A1, by omega, by omega, rfl, by go_num, (unhide H1).drewN _, unhide OK1, unhide AN1⟩
            case measure => simp [intOf]; omega
      · have hor : ¬ ((k : Int) < (n : Int)) ∨ ((k : Int) < (n : Int) ∧ ¬ ((k : Int) < 120)) := by omega
        clear hlt hk
        have hN : A.n ≤ 1024 := by rw [unhide AN]; exact hN2
        generalize (k : Int) = ki at hor ⊢
        rcases hor with h1 | ⟨h1, h2⟩
        · skip
          go_wp2_with fail
          refine ((unhide HA).sure hN).mono ?_
          rintro e V1 ⟨g, rfl, hrow, h1, -, hg⟩
          have H1 := hide h1
          have R1 := hide hrow
          have HG := hide hg
          rw [unhide AN] at R1
          rw [unhide AN]
          clear h1 hrow hg HA
          obtain ⟨gs, cs, d0, -, -, hl⟩ := (unhide H1).head
          rw [unhide AN] at d0 hl
          have C1 := hide (same_true V1 (some ⟨g, 0, none⟩) (some ⟨gs, 0, none⟩) N N cs _ _ (by omega) (unhide R1).lines hl (fun i hi => eqL_refl _))
          clear hl
          go_wp2_with fail
          refine (unhide C1).mono ?_
          rintro e V2 ⟨rfl, hk2⟩
          have H2 : Hid (Two W V2 (fun k => False ∨ k = g) b y A A) := ((unhide H1).same hk2).1
          have HB2 : Hid (∃ f, Blk V2 g (N * 8) 50 f) := ⟨_, Blk.keeps (unhide R1) hk2 id⟩
          clear hk2 C1 H1 R1 d0
          go_wp2_with fail
          go_loopw [15] (fun i wv => ∃ j : Nat, j ≤ N ∧ i = .int .i64 j ∧ Two W wv (fun k => False ∨ k = g) b y A A ∧ ∃ f, Blk wv g (N * 8) 50 f) (fun i _ => N - (intOf i).toNat)
          case atStart => exact ⟨0, by omega, rfl, unhide H2, unhide HB2⟩
          case round =>
            clear H2 HB2
            obtain ⟨j, hj, rfl, hA, f, hf⟩ := hrel
            have HA := hide hA
            have HF := hide hf
            clear hA hf
            by_cases hlt : j < N
            · have hjn : (j : Int) < (N : Int) := by omega
              obtain ⟨gf, hgf⟩ : ∃ gf : Nat → Int, gf = fun j => if j < 2 then 9 else 0 := ⟨_, rfl⟩
              have HNI : Hid (Try.prog.built 50 [(0, .int .u64 9), (1, .int .u64 9)] = some (lnV gf)) := by rw [hgf]; exact nine
              clear hgf
              obtain ⟨Lc, hLc⟩ : ∃ Lc, Lc = lnV gf := ⟨_, rfl⟩
              rw [← hLc] at HNI
              have hth : Hid (wr.there g (j * 8) Lc.size) := by rw [hLc, lnV_size]; exact (unhide HF).there (j * 8) 8 (by omega)
              have s8' : (Try.prog.info? 50).map (·.size) = some Lc.size := by rw [hLc, lnV_size]; exact lsize
              have ho : Hid (Lc.all (·.oneCell') = true) := by rw [hLc]; exact lnV_one _
              have HK3 : Hid (Keeps (· = g) wr (wr.setCells g (j * 8) Lc.toList)) := Keeps.setCells (F := (· = g)) (Or.inl rfl) _ _ _ (Keeps.refl _ _)
              have HA3 := hide ((unhide HA).own (Or.inr rfl) (unhide HG) (unhide HK3))
              have HF3 : Hid (∃ f, Blk (wr.setCells g (j * 8) Lc.toList) g (N * 8) 50 f) := ⟨_, Blk.sets _ _ _ _ (unhide HF)⟩
              have HLC := hide hLc
              clear hLc HK3
              go_wp2_with (first | (refine wpList_buildV2 (by rfl) _ _ rfl _ _ rfl rfl Lc (unhide HNI) ?_) | (refine wpList_store_mid rfl 50 _ _ rfl g (j * 8) Lc rfl rfl (unhide hth) s8' (unhide ho) ?_))
              go_roundw
              case rel => exact ⟨j + 1, by omega, by go_num, unhide HA3, unhide HF3⟩
              case measure => simp [intOf]; omega
            · have hjn : ¬ ((j : Int) < (N : Int)) := by omega
              obtain ⟨gs, cs, d0, -, -, hl⟩ := (unhide HA).head
              rw [unhide AN] at d0 hl
              have HL := hide hl
              clear hl HF
              go_wp2_with fail
              refine wp_region_noPanic ?_
              refine wp_region_held_drew (S := fun w' => w'.cell? ⟨y, 0, none⟩ = some (.slice (some ⟨gs, 0, none⟩) N cs)) (by kernel_rfl) d0 (fun hHeld => ?_)
              refine take_at 0 128 (v := ?_) rfl rfl (by kernel_rfl) (by kernel_rfl) (by kernel_rfl) (Or.inl ⟨by rfl, ?_⟩) hHeld ?_
              rotate_left
              · intro w hSw; go_simp; with_reducible rfl
              simp only [Act.put, List.setIfInBounds_toArray, List.set_cons_zero, List.set_cons_succ]
              refine take_at 1 129 (v := ?_) rfl rfl (by kernel_rfl) (by kernel_rfl) (by kernel_rfl) (Or.inl ⟨by rfl, ?_⟩) hHeld ?_
              rotate_left
              · intro w hSw; go_simp; with_reducible rfl
              simp only [Act.put, List.setIfInBounds_toArray, List.set_cons_zero, List.set_cons_succ]
              refine take_at 2 130 (v := ?_) rfl rfl (by kernel_rfl) (by kernel_rfl) (by kernel_rfl) (Or.inl ⟨by rfl, ?_⟩) hHeld ?_
              rotate_left
              · intro w hSw; go_simp; with_reducible rfl
              simp only [Act.put, List.setIfInBounds_toArray, List.set_cons_zero, List.set_cons_succ]
              refine take_at 4 132 (v := ?_) rfl rfl (by kernel_rfl) (by kernel_rfl) (by kernel_rfl) (Or.inl ⟨by rfl, ?_⟩) hHeld ?_
              rotate_left
              · intro w hSw; go_simp; with_reducible rfl
              simp only [Act.put, List.setIfInBounds_toArray, List.set_cons_zero, List.set_cons_succ]
              refine take_at 5 133 (v := ?_) rfl rfl (by kernel_rfl) (by kernel_rfl) (by kernel_rfl) (Or.inl ⟨by rfl, ?_⟩) hHeld ?_
              rotate_left
              · intro w hSw; go_simp; with_reducible rfl
              simp only [Act.put, List.setIfInBounds_toArray, List.set_cons_zero, List.set_cons_succ]
              refine take_at 6 134 (v := ?_) rfl rfl (by kernel_rfl) (by kernel_rfl) (by kernel_rfl) (Or.inl ⟨by rfl, ?_⟩) hHeld ?_
              rotate_left
              · intro w hSw; go_simp; with_reducible rfl
              simp only [Act.put, List.setIfInBounds_toArray, List.set_cons_zero, List.set_cons_succ]
              refine take_at 7 135 (v := ?_) rfl rfl (by kernel_rfl) (by kernel_rfl) (by kernel_rfl) (Or.inl ⟨by rfl, ?_⟩) hHeld ?_
              rotate_left
              · intro w hSw; go_simp; with_reducible rfl
              simp only [Act.put, List.setIfInBounds_toArray, List.set_cons_zero, List.set_cons_succ]
              have C1 := hide ((unhide HA).drew.sure hN)
              have HLD : Hid (LinesAt wr.drew (some ⟨gs, 0, none⟩) N fun i => (A.l i).s) := unhide HL
              clear HL HA d0
              generalize wr.drew = V at *
              refine wpAnyH_ready (rs := [3]) (by kernel_rfl) (by simp) ?_
              refine AllReadyH.cons rfl (fun K hK => ?_) AllReadyH.nil
              go_simp
              refine (unhide C1).mono ?_
              rintro e V1 ⟨g2, rfl, hrow, hT, hkk, -⟩
              rw [unhide AN] at hrow
              rw [unhide AN]
              have s1 := hkk.cellOf hHeld id
              have HKW := hide hT.keeps
              have C2 := hide (same_true V1 (some ⟨g2, 0, none⟩) (some ⟨gs, 0, none⟩) N N cs _ _ (by omega) hrow.lines (linesAt_keeps (unhide HLD) hkk) (fun i hi => eqL_refl _))
              clear hrow hT hkk C1 HLD
              go_wp2_with fail
              refine hK.out _ _ s1 (fun hNew => ?_)
              clear hK K hHeld hNew
              have hHeld := s1
              clear s1
              try simp only [Act.put, List.setIfInBounds_toArray]
              refine wpAnyH_ready (rs := [8]) (by kernel_rfl) (by simp) ?_
              refine AllReadyH.cons rfl (fun K hK => ?_) AllReadyH.nil
              go_simp
              refine (unhide C2).mono ?_
              rintro e V2 ⟨rfl, hkk⟩
              have s1 := hkk.cellOf hHeld id
              have HKW2 := hide ((unhide HKW).trans' hkk)
              clear hkk C2 HKW
              go_wp2_with fail
              refine hK.out _ _ s1 (fun hNew => ?_)
              clear hK K hHeld hNew
              have hHeld := s1
              clear s1
              try simp only [Act.put, List.setIfInBounds_toArray]
              refine take_at 9 137 (v := ?_) rfl rfl (by kernel_rfl) (by kernel_rfl) (by kernel_rfl) (Or.inl ⟨by rfl, ?_⟩) hHeld ?_
              rotate_left
              · intro w hSw; go_simp; with_reducible rfl
              simp only [Act.put, List.setIfInBounds_toArray, List.set_cons_zero, List.set_cons_succ]
              refine take_at 10 4 (v := ?_) rfl rfl (by kernel_rfl) (by kernel_rfl) (by kernel_rfl) (Or.inl ⟨by rfl, ?_⟩) hHeld ?_
              rotate_left
              · intro w hSw; go_simp; with_reducible rfl
              simp only [Act.put, List.setIfInBounds_toArray, List.set_cons_zero, List.set_cons_succ]
              refine wpAnyH_done (by kernel_rfl) ?_ _
              refine NoPanic.normal ?_
              clear hHeld
              go_wp2_with fail
              go_ret
              exact ⟨rfl, (unhide HKW2).below (Nat.le_refl _) (fun _ h => h.elim)⟩
        · skip
          go_wp2_with fail
          refine ((unhide HA).sure hN).mono ?_
          rintro e V1 ⟨g, rfl, hrow, h1, -, hg⟩
          have H1 := hide h1
          have R1 := hide hrow
          have HG := hide hg
          rw [unhide AN] at R1
          rw [unhide AN]
          clear h1 hrow hg HA
          obtain ⟨gs, cs, d0, -, -, hl⟩ := (unhide H1).head
          rw [unhide AN] at d0 hl
          have C1 := hide (same_true V1 (some ⟨g, 0, none⟩) (some ⟨gs, 0, none⟩) N N cs _ _ (by omega) (unhide R1).lines hl (fun i hi => eqL_refl _))
          clear hl
          go_wp2_with fail
          refine (unhide C1).mono ?_
          rintro e V2 ⟨rfl, hk2⟩
          have H2 : Hid (Two W V2 (fun k => False ∨ k = g) b y A A) := ((unhide H1).same hk2).1
          have HB2 : Hid (∃ f, Blk V2 g (N * 8) 50 f) := ⟨_, Blk.keeps (unhide R1) hk2 id⟩
          clear hk2 C1 H1 R1 d0
          go_wp2_with fail
          go_loopw [15] (fun i wv => ∃ j : Nat, j ≤ N ∧ i = .int .i64 j ∧ Two W wv (fun k => False ∨ k = g) b y A A ∧ ∃ f, Blk wv g (N * 8) 50 f) (fun i _ => N - (intOf i).toNat)
          case atStart => exact ⟨0, by omega, rfl, unhide H2, unhide HB2⟩
          case round =>
            clear H2 HB2
            obtain ⟨j, hj, rfl, hA, f, hf⟩ := hrel
            have HA := hide hA
            have HF := hide hf
            clear hA hf
            by_cases hlt : j < N
            · have hjn : (j : Int) < (N : Int) := by omega
              obtain ⟨gf, hgf⟩ : ∃ gf : Nat → Int, gf = fun j => if j < 2 then 9 else 0 := ⟨_, rfl⟩
              have HNI : Hid (Try.prog.built 50 [(0, .int .u64 9), (1, .int .u64 9)] = some (lnV gf)) := by rw [hgf]; exact nine
              clear hgf
              obtain ⟨Lc, hLc⟩ : ∃ Lc, Lc = lnV gf := ⟨_, rfl⟩
              rw [← hLc] at HNI
              have hth : Hid (wr.there g (j * 8) Lc.size) := by rw [hLc, lnV_size]; exact (unhide HF).there (j * 8) 8 (by omega)
              have s8' : (Try.prog.info? 50).map (·.size) = some Lc.size := by rw [hLc, lnV_size]; exact lsize
              have ho : Hid (Lc.all (·.oneCell') = true) := by rw [hLc]; exact lnV_one _
              have HK3 : Hid (Keeps (· = g) wr (wr.setCells g (j * 8) Lc.toList)) := Keeps.setCells (F := (· = g)) (Or.inl rfl) _ _ _ (Keeps.refl _ _)
              have HA3 := hide ((unhide HA).own (Or.inr rfl) (unhide HG) (unhide HK3))
              have HF3 : Hid (∃ f, Blk (wr.setCells g (j * 8) Lc.toList) g (N * 8) 50 f) := ⟨_, Blk.sets _ _ _ _ (unhide HF)⟩
              have HLC := hide hLc
              clear hLc HK3
              go_wp2_with (first | (refine wpList_buildV2 (by rfl) _ _ rfl _ _ rfl rfl Lc (unhide HNI) ?_) | (refine wpList_store_mid rfl 50 _ _ rfl g (j * 8) Lc rfl rfl (unhide hth) s8' (unhide ho) ?_))
              go_roundw
              case rel => exact ⟨j + 1, by omega, by go_num, unhide HA3, unhide HF3⟩
              case measure => simp [intOf]; omega
            · have hjn : ¬ ((j : Int) < (N : Int)) := by omega
              obtain ⟨gs, cs, d0, -, -, hl⟩ := (unhide HA).head
              rw [unhide AN] at d0 hl
              have HL := hide hl
              clear hl HF
              go_wp2_with fail
              refine wp_region_noPanic ?_
              refine wp_region_held_drew (S := fun w' => w'.cell? ⟨y, 0, none⟩ = some (.slice (some ⟨gs, 0, none⟩) N cs)) (by kernel_rfl) d0 (fun hHeld => ?_)
              refine take_at 0 128 (v := ?_) rfl rfl (by kernel_rfl) (by kernel_rfl) (by kernel_rfl) (Or.inl ⟨by rfl, ?_⟩) hHeld ?_
              rotate_left
              · intro w hSw; go_simp; with_reducible rfl
              simp only [Act.put, List.setIfInBounds_toArray, List.set_cons_zero, List.set_cons_succ]
              refine take_at 1 129 (v := ?_) rfl rfl (by kernel_rfl) (by kernel_rfl) (by kernel_rfl) (Or.inl ⟨by rfl, ?_⟩) hHeld ?_
              rotate_left
              · intro w hSw; go_simp; with_reducible rfl
              simp only [Act.put, List.setIfInBounds_toArray, List.set_cons_zero, List.set_cons_succ]
              refine take_at 2 130 (v := ?_) rfl rfl (by kernel_rfl) (by kernel_rfl) (by kernel_rfl) (Or.inl ⟨by rfl, ?_⟩) hHeld ?_
              rotate_left
              · intro w hSw; go_simp; with_reducible rfl
              simp only [Act.put, List.setIfInBounds_toArray, List.set_cons_zero, List.set_cons_succ]
              refine take_at 4 132 (v := ?_) rfl rfl (by kernel_rfl) (by kernel_rfl) (by kernel_rfl) (Or.inl ⟨by rfl, ?_⟩) hHeld ?_
              rotate_left
              · intro w hSw; go_simp; with_reducible rfl
              simp only [Act.put, List.setIfInBounds_toArray, List.set_cons_zero, List.set_cons_succ]
              refine take_at 5 133 (v := ?_) rfl rfl (by kernel_rfl) (by kernel_rfl) (by kernel_rfl) (Or.inl ⟨by rfl, ?_⟩) hHeld ?_
              rotate_left
              · intro w hSw; go_simp; with_reducible rfl
              simp only [Act.put, List.setIfInBounds_toArray, List.set_cons_zero, List.set_cons_succ]
              refine take_at 6 134 (v := ?_) rfl rfl (by kernel_rfl) (by kernel_rfl) (by kernel_rfl) (Or.inl ⟨by rfl, ?_⟩) hHeld ?_
              rotate_left
              · intro w hSw; go_simp; with_reducible rfl
              simp only [Act.put, List.setIfInBounds_toArray, List.set_cons_zero, List.set_cons_succ]
              refine take_at 7 135 (v := ?_) rfl rfl (by kernel_rfl) (by kernel_rfl) (by kernel_rfl) (Or.inl ⟨by rfl, ?_⟩) hHeld ?_
              rotate_left
              · intro w hSw; go_simp; with_reducible rfl
              simp only [Act.put, List.setIfInBounds_toArray, List.set_cons_zero, List.set_cons_succ]
              have C1 := hide ((unhide HA).drew.sure hN)
              have HLD : Hid (LinesAt wr.drew (some ⟨gs, 0, none⟩) N fun i => (A.l i).s) := unhide HL
              clear HL HA d0
              generalize wr.drew = V at *
              refine wpAnyH_ready (rs := [3]) (by kernel_rfl) (by simp) ?_
              refine AllReadyH.cons rfl (fun K hK => ?_) AllReadyH.nil
              go_simp
              refine (unhide C1).mono ?_
              rintro e V1 ⟨g2, rfl, hrow, hT, hkk, -⟩
              rw [unhide AN] at hrow
              rw [unhide AN]
              have s1 := hkk.cellOf hHeld id
              have HKW := hide hT.keeps
              have C2 := hide (same_true V1 (some ⟨g2, 0, none⟩) (some ⟨gs, 0, none⟩) N N cs _ _ (by omega) hrow.lines (linesAt_keeps (unhide HLD) hkk) (fun i hi => eqL_refl _))
              clear hrow hT hkk C1 HLD
              go_wp2_with fail
              refine hK.out _ _ s1 (fun hNew => ?_)
              clear hK K hHeld hNew
              have hHeld := s1
              clear s1
              try simp only [Act.put, List.setIfInBounds_toArray]
              refine wpAnyH_ready (rs := [8]) (by kernel_rfl) (by simp) ?_
              refine AllReadyH.cons rfl (fun K hK => ?_) AllReadyH.nil
              go_simp
              refine (unhide C2).mono ?_
              rintro e V2 ⟨rfl, hkk⟩
              have s1 := hkk.cellOf hHeld id
              have HKW2 := hide ((unhide HKW).trans' hkk)
              clear hkk C2 HKW
              go_wp2_with fail
              refine hK.out _ _ s1 (fun hNew => ?_)
              clear hK K hHeld hNew
              have hHeld := s1
              clear s1
              try simp only [Act.put, List.setIfInBounds_toArray]
              refine take_at 9 137 (v := ?_) rfl rfl (by kernel_rfl) (by kernel_rfl) (by kernel_rfl) (Or.inl ⟨by rfl, ?_⟩) hHeld ?_
              rotate_left
              · intro w hSw; go_simp; with_reducible rfl
              simp only [Act.put, List.setIfInBounds_toArray, List.set_cons_zero, List.set_cons_succ]
              refine take_at 10 4 (v := ?_) rfl rfl (by kernel_rfl) (by kernel_rfl) (by kernel_rfl) (Or.inl ⟨by rfl, ?_⟩) hHeld ?_
              rotate_left
              · intro w hSw; go_simp; with_reducible rfl
              simp only [Act.put, List.setIfInBounds_toArray, List.set_cons_zero, List.set_cons_succ]
              refine wpAnyH_done (by kernel_rfl) ?_ _
              refine NoPanic.normal ?_
              clear hHeld
              go_wp2_with fail
              go_ret
              exact ⟨rfl, (unhide HKW2).below (Nat.le_refl _) (fun _ h => h.elim)⟩
  · have HB := hide hgood
    clear hgood wz
    go_enter Try.func3, Try.ntmps3
    go_wp2_with fail
    refine (shown_any W).mono ?_
    rintro e w0 ⟨rfl, hk0⟩
    have HK := hide hk0
    clear hk0
    go_wp2_with fail
    refine (new_bad w0 z (unhide HB)).mono ?_
    rintro e w0 ⟨rfl, rfl⟩
    go_wp2_with fail
    refine (rnew_bad w0 z (unhide HB)).mono ?_
    rintro e w0 ⟨rfl, rfl⟩
    go_wp2_with fail
    go_ret
    exact ⟨rfl, (unhide HK).below (Nat.le_refl _) (fun _ h => h.elim)⟩

set_option maxRecDepth 100000 in
theorem lifted (os : Os) (started : os.Started) (H : Type) (enc : TypeId × Value → H) :
    ReturnsInHanded {} Try.checked os 3 .any (Rows.nvmPlaysSpec.pre6 enc Try.prog Try.f3 Rows.nvmPlaysRow.domain false) (Rows.nvmPlaysSpec.post enc Try.prog Try.f3 false true false false) := by
  refine law_frame (C := Try.checked) (ts := [3, 22]) (tb := 4) (by kernel_rfl) started (by kernel_rfl) Try.func3 Try.params3 (by kernel_rfl) Try.underlying4 (by kernel_rfl) (by kernel_rfl) rfl ?_
    (ChangeSpec.witness6 (enc := enc) (C := Try.checked) false ⟨#[], #[.int .i64 0, .slice none 0 0], []⟩ 8 (by kernel_rfl) (by kernel_rfl) (by kernel_rfl) (by kernel_rfl)) ?_
  · intro ds hd
    match ds, hd with
    | [d0, d1], _ => rfl
  · intro W base args ds p hval hA
    obtain ⟨v0, vs0, d0, ds0, p0, q0, hargs, rfl, rfl, h0, r0⟩ := trodAll_cons hA
    obtain ⟨v1, vs1, d1, ds1, p1, q1, rfl, rfl, rfl, h1, r1⟩ := trodAll_cons r0
    obtain ⟨rfl, rfl, rfl⟩ := trodAll_nil r1
    obtain rfl : args = #[v0, v1] := by cases args; simp_all
    obtain ⟨z, rfl, rfl, rfl, wz⟩ := open_int Try.underlying3 (hval 0 3 v0 rfl rfl) h0
    obtain ⟨a, n, cap, o, rfl, hO⟩ := open_ops (hval 1 22 v1 rfl rfl) h1
    exact walk W z a n cap o wz hO

theorem over : Rows.nvmPlaysRow.holds Try.pinned (OpenSpec.ofChange Rows.nvmPlaysSpec) :=
  OpenClaim.holds_of_wide 3 Try.f3 rfl rfl rfl rfl rfl rfl rfl ⟨rfl, rfl, rfl, rfl, rfl⟩ rfl rfl rfl rfl rfl (by kernel_rfl) Try.func3 (by kernel_rfl)
    (of_decide_eq_true (by kernel_rfl)) (by unfold Func.isWrapper; first | (rw [if_pos (by decide +kernel)]; kernel_rfl) | (rw [if_neg (by decide +kernel)]; exact ⟨rfl, rfl⟩))
    (fun os started H enc _ => lifted os started H enc)

end Go.Proofs.Ytkoaajcfnnpiaaa.nvmPlays
namespace Go.Proofs.Ytkoaajcfnnpiaaa
theorem nvmPlays_holds : Rows.NvmPlaysSaid := nvmPlays.over
end Go.Proofs.Ytkoaajcfnnpiaaa
