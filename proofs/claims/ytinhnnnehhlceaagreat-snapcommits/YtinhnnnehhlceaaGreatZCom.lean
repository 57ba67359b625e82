
/-
  For every two rows of changes and every number, SnapCommits returns true and leaves its arguments as they were: a checkpoint is committed with what stood at its begin. No condition.
-/
import Derived.Test.YtinhnnnehhlceaaGreatZBase
import Derived.Test.YtinhnnnehhlceaaGreatZRowO
import Derived.Test.YtinhnnnehhlceaaGreatPkMem
import Derived.Test.YtinhnnnehhlceaaGreatLaw
import Derived.Test.YtinhnnnehhlceaaGreatRows
namespace Go.Proofs.YtinhnnnehhlceaaGreat.snapCommits
open Go.ChangeShapes Go.WideShapes Go.ChangeAt Go.RowKit Go.Joins
set_option linter.unusedVariables false
set_option linter.unusedSimpArgs false
set_option maxRecDepth 100000

theorem zln_guard : Tryz.prog.eqGuardType Tryz.prog.depth 83 = false := by kernel_rfl
theorem zero_lnz : (Tryz.prog.info? 83).map (·.zero) = some (some (.agg (lnV fun _ => 0))) := by kernel_rfl

set_option maxHeartbeats 32000000 in
theorem walk (W : World) (a : Option Addr) (n cap : Nat) (o : Nat → OOp) (a2 : Option Addr) (n2 cap2 : Nat) (o2 : Nat → OOp) (sq : Int) (hO : OOpsAt W a n cap o) (hO2 : OOpsAt W a2 n2 cap2 o2) (wsq : (Lit.int .i64 sq).wf = true) :
    Calls Tryz.prog 4 #[.slice a n cap, .slice a2 n2 cap2, .int .i64 sq] W fun e W' => e = .returned (.bool true) ∧ Below W.heap.size W W' := by
  have CK := hide (zkind_any sq (in64_wf wsq) 1000 (by decide) (by decide))
  have hk1000 := kindN_lt sq 1000 (by decide)
  obtain ⟨kq, hkq⟩ : ∃ kq, kq = kindN sq 1000 := ⟨_, rfl⟩
  rw [← hkq] at CK hk1000
  clear hkq wsq
  obtain ⟨hn, hops⟩ := hO
  have HO := hide hops
  obtain ⟨hn2, hops2⟩ := hO2
  have HO2 := hide hops2
  clear hops hops2
  go_enter Tryz.func4, Tryz.ntmps4
  go_wp2_with fail
  refine (zshown_any W).mono ?_
  rintro e w0 ⟨rfl, hk0⟩
  have CM := hide (zmade_any W w0 hk0 (fun _ => False) (fun _ h => h.elim) 400 12 (by decide) (by decide) (by decide))
  clear hk0
  go_wp2_with fail
  refine (unhide CM).mono ?_
  rintro e w1 ⟨m, b, x, rfl, hw, -⟩
  have HW0 := hide hw
  have M := hide (Has.memX W m)
  have D0 := hide (Chd.start 400 (by decide) (by decide))
  have B0 := hide (Bs.start 400)
  have GS := hide (fun (S : Sto) (A : Mm) (i : Nat) (q : Int) (h : Chd 400 S A i) (hb : Bs (tblF 12) dirF A) (hi : i ≤ 20) (hq : 0 ≤ q ∧ q ≤ two40) => Cq.start h hb hi hq)
  clear hw CM
  generalize iA 12 400 = A0 at *
  generalize sS 12 400 = S0 at *
  generalize wk0 = K0 at *
  go_wp2_with fail
  go_loopw [11] (fun q wr => ∃ (i : Nat) (S : Sto) (A : Mm), i ≤ n ∧ i ≤ 20 ∧ q = .int .i64 i ∧ Chd 400 S A i ∧ Bs (tblF 12) dirF A ∧ WHas W m b x (fun A w G => Has W w G m A) S A K0 wr (fun _ => False)) (fun q _ => n - (intOf q).toNat)
  case atStart => exact ⟨0, S0, A0, by omega, by omega, rfl, unhide D0, unhide B0, unhide HW0⟩
  case round =>
    clear D0 B0 HW0
    obtain ⟨i, S, A, hi, hi20, rfl, hd, hb, hw⟩ := hrel
    have HW := hide hw
    have HD := hide hd
    have HB := hide hb
    clear hw hd hb
    by_cases hlt : i < n ∧ i < 20
    · skip
      obtain ⟨xx, off, rfl, hx⟩ : ∃ b off, a = some ⟨b, off, none⟩ ∧ ∀ i, i < n → OOpAt W b (off + i * 4) (o i) := by
        rcases unhide HO with h | h
        · omega
        · exact h
      have hxj := hx i hlt.1
      have R0 := hide (rangeAt_keeps hxj.1 ((WHas.stay (unhide M).toMemL b x S A K0).sz _ _ (unhide HW)) id)
      have hfit := hide hxj.2
      have hin : (i : Int) < (n : Int) := by omega
      have hi20 : (i : Int) < 20 := by omega
      have s4 : (Tryz.prog.info? 54).map (·.size) = some (o i).cells.length := by show _ = some 4; kernel_rfl
      clear hx hxj
      obtain ⟨kd, id, wd, v, hop⟩ : ∃ kd id wd v, o i = ⟨kd, id, wd, v⟩ := ⟨_, _, _, _, rfl⟩
      rw [hop] at R0 hfit s4
      clear hop
      have R1 : Hid (wr.rangeAt xx (off + i * 4) [.int .i64 kd, .int .i64 id, .int .i64 wd, .int .u64 v]) := unhide R0
      have s4' : (Tryz.prog.info? 54).map (·.size) = some [Value.int .i64 kd, .int .i64 id, .int .i64 wd, .int .u64 v].length := s4
      have CC := hide ((unhide HW).call fun G' h' => change_any (unhide M).toMemL h' (unhide HD).good.ok (ok_mono (unhide HD).ok (by omega)) kd id wd v (unhide hfit))
      have HB2 := hide ((unhide HB).ch (unhide HD).good (unhide HD).b (unhide HD).d ⟨kd, id, wd, v⟩)
      have HD2 := hide ((unhide HD).ch ⟨kd, id, wd, v⟩ (unhide hfit).2.2.2)
      clear R0 s4 HW HD HB
      generalize chS S A ⟨kd, id, wd, v⟩ = S2 at *
      generalize chM S A ⟨kd, id, wd, v⟩ = A2 at *
      go_wp2_with (with_reducible refine wpList_load_mid (by with_unfolding_all rfl) 54 _ (by with_unfolding_all rfl) xx (off + i * 4) (by with_unfolding_all rfl) [.int .i64 kd, .int .i64 id, .int .i64 wd, .int .u64 v] _ (unhide R1) Tryz.underlying54 (by with_unfolding_all rfl) s4' ?_)
      refine (unhide CC).mono ?_
      rintro e w2 ⟨rfl, h1, -⟩
      have HW2 := hide h1
      clear h1 CC R1
      go_wp2_with fail
      go_roundw
      case rel => exact ⟨i + 1, S2, A2, by omega, by omega, by go_num, unhide HD2, unhide HB2, unhide HW2⟩
      case measure => simp [intOf]; omega
    · have hor : ¬ ((i : Int) < (n : Int)) ∨ ((i : Int) < (n : Int) ∧ ¬ ((i : Int) < 20)) := by omega
      clear hlt HO
      rcases hor with h1 | ⟨h1, h2⟩
      · go_upto_region 9 with fail
        clear h1
        generalize (i : Int) = lasti at *
        have T1 := hide (WHas.stay (unhide M).toMemL b x S A K0)
        have CT := hide (table_obj (unhide HW).rep)
        have st := s147_tab S.w
        have Zt := hide zero_tab
        have Xt := hide (tabV_one S.w)
        have SZt : Hid ((tabV fun _ => ze).size = (tabV S.w).size) := by show _ = _; rw [tabV_size, tabV_size]
        have EQT := hide (fun (w : World) => zequal_tab S.w w)
        generalize hTV : tabV S.w = TV at *
        have HTV := hide hTV
        clear hTV
        generalize (tabV fun _ => ze) = ZT at *
        go_wp2_with fail
        refine (unhide CT).mono ?_
        rintro e w2 ⟨rfl, hb⟩
        have O1 := hide (((Held.start (unhide T1) (unhide HW)).below (unhide T1) hb).alloc (unhide T1) (.cells TV 66))
        clear hb CT HW
        go_upto_region 10 with (first | (with_reducible refine wpList_allocZ (by with_unfolding_all rfl) 66 (by with_unfolding_all rfl) ZT (unhide Zt) ?_) | (with_reducible refine wpList_store_row (by with_unfolding_all rfl) 66 _ _ (by with_unfolding_all rfl) w2.heap.size TV (by with_unfolding_all rfl) (by with_unfolding_all rfl) 66 ZT (heap_new w2 _) st (unhide SZt) (unhide Xt) ?_; rw [setRow_alloc]))
        obtain ⟨g10, hg10⟩ : ∃ g, g = w2.heap.size := ⟨_, rfl⟩
        rw [← hg10] at O1 ⊢
        clear hg10
        generalize w2.alloc (.cells TV 66) = w3 at *
        have O2 := hide ((unhide O1).alloc (unhide T1) (.cells (waV (waTo S A 0)) 88))
        have h10 : g10 < w3.heap.size := (unhide O1).lt (g10, _) List.mem_cons_self
        have Zw := hide (zero_wa S A)
        have Bw := hide (built_wa S A)
        have sw := s490 (waTo S A 0)
        have Xw := hide (waV0_one S A)
        generalize hWV : waV (waTo S A 0) = WV at *
        clear O1 Zt SZt Xt
        go_upto_region 12 with (first | (with_reducible refine wpList_build0 (by with_unfolding_all rfl) 88 (by with_unfolding_all rfl) WV (unhide Bw) ?_) | (with_reducible refine wpList_allocZ (by with_unfolding_all rfl) 88 (by with_unfolding_all rfl) WV (unhide Zw) ?_) | (with_reducible refine wpList_store_row (by with_unfolding_all rfl) 88 _ _ (by with_unfolding_all rfl) w3.heap.size WV (by with_unfolding_all rfl) (by with_unfolding_all rfl) 88 WV (heap_new w3 _) sw rfl (unhide Xw) ?_; rw [setRow_alloc]))
        obtain ⟨g11, hg11⟩ : ∃ g, g = w3.heap.size := ⟨_, rfl⟩
        rw [← hg11] at O2 h10 ⊢
        clear hg11
        generalize w3.alloc (.cells WV 88) = w4 at *
        rw [← hWV] at O2
        clear Zw Bw sw Xw hWV
        have hAn : A.n ≤ 1024 := by rw [(unhide HD).n]; decide
        have CG := hide (fun (w' : World) G' (h' : WHas W m b x (fun A w G => Has W w G m A) S A K0 w' G') (z : Int) => h'.call fun G'' h'' => get_any (unhide M).toMemL h'' hAn z)
        go_wp2_with fail
        go_loopw [14] (fun q wq => ∃ k : Nat, k ≤ 49 ∧ q = .int .i64 k ∧ Held W (WHas W m b x (fun A w G => Has W w G m A) S A K0) wr wq (fun _ => False) [(g11, .cells (waV (waTo S A k)) 88), (g10, .cells TV 66)]) (fun q _ => 49 - (intOf q).toNat)
        case atStart => exact ⟨0, by omega, rfl, unhide O2⟩
        case round =>
          clear O2
          obtain ⟨k, hk, rfl, hh⟩ := hrel
          have HH := hide hh
          clear hh
          by_cases hlk : k < 49
          · have hk49 : (k : Int) < 49 := by omega
            have CGk := hide (unhide CG _ _ (unhide HH).st (k : Int))
            have HG : Hid (getT S A (k : Int) = .tuple #[.agg (S.getV A (k : Int)), .int .i64 (S.getE A (k : Int))]) := rfl
            rw [unhide HG] at CGk
            have hsz := getV_size S A (k : Int)
            have s10 : (Tryz.prog.info? 87).map (·.size) = some (S.getV A (k : Int)).size := by rw [hsz]; kernel_rfl
            have X10 := hide (getV_one S A (k : Int))
            have NX := hide (waTo_next S A k)
            generalize S.getE A (k : Int) = er at *
            have KP := hide (fun (w' : World) (h : w'.heap[g11]? = some (.cells (waV (waTo S A k)) 88 (0, 0))) => wa_put (S.getV A (k : Int)) hsz hlk h)
            rw [unhide NX] at KP
            clear HG NX
            generalize S.getV A (k : Int) = OV at *
            go_wp2_with fail
            refine (unhide CGk).mono ?_
            rintro e w5 ⟨rfl, h1, h2⟩
            have O3 := hide ((unhide HH).call (St' := WHas W m b x (fun A w G => Has W w G m A) S A K0) h1 h2)
            clear h1 h2 HH CGk
            have bk := (unhide O3).at g11 (.cells (waV (waTo S A k)) 88) (by simp)
            have TB : Hid (w5.there g11 (k * 10) OV.size) := by rw [hsz]; exact wa_there hlk bk
            have O4 := hide (((unhide O3).turnOwn (unhide T1) g11 (.cells (waV (waTo S A k)) 88) _ (by simp) (keeps_sets OV.toList (k * 10) _ _ (Keeps.refl _ _)) (unhide KP _ bk)).less (unhide T1) (L' := [(g11, .cells (waV (waTo S A (k + 1))) 88), (g10, .cells TV 66)]) (fun p hp => by
              rcases List.mem_cons.1 hp with rfl | hp
              · exact List.mem_cons_self
              · rcases List.mem_cons.1 hp with rfl | hp
                · exact List.mem_cons_of_mem _ (List.mem_filter.2 ⟨by simp, by simp; omega⟩)
                · cases hp))
            clear bk KP O3
            go_wp2_with (with_reducible refine wpList_store_mid (by with_unfolding_all rfl) 87 _ _ (by with_unfolding_all rfl) g11 (k * 10) OV (by with_unfolding_all rfl) (by with_unfolding_all rfl) (unhide TB) s10 (unhide X10) ?_)
            go_roundw
            case rel => exact ⟨k + 1, by omega, by go_num, unhide O4⟩
            case measure => simp [intOf]; omega
          · have hge : ¬ ((k : Int) < 49) := by omega
            have ek : k = 49 := by omega
            rw [ek] at HH
            clear hlk ek
            go_upto_region 15 with fail
            clear hge
            generalize (k : Int) = lastk at *
            clear CG
            obtain ⟨s1, s2, s3⟩ := unhide GS S A i (kq : Int) (unhide HD) (unhide HB) hi20 ⟨by omega, by unfold two40; omega⟩
            have HC0 := hide s3
            have CB := hide (wbegin_any (unhide M) (unhide HH).st (kq : Int))
            rw [s1] at CB
            have hn59 : ¬ (((K0.beginK S (kq : Int)).l.length : Int) > 59) := by omega
            have hL : Hid ((K0.beginK S (kq : Int)).l.length = (K0.beginK S (kq : Int)).l.length) := rfl
            generalize hn0 : (K0.beginK S (kq : Int)).l.length = n0 at s3 HC0 hn59
            rw [hn0] at hL
            have HL0 := hide hn0
            clear s1 s2 s3 hL hn0 GS
            generalize K0.beginS S (kq : Int) = S1 at *
            generalize K0.beginK S (kq : Int) = K1 at *
            go_wp2_with fail
            refine (unhide CK _).mono ?_
            rintro e w5 ⟨rfl, rfl⟩
            go_wp2_with fail
            refine (unhide CB).mono ?_
            rintro e w6 ⟨rfl, h1, h2⟩
            have O5 := hide ((unhide HH).call (St' := WHas W m b x (fun A w G => Has W w G m A) S1 A K1) h1 h2)
            have CL := hide ((unhide O5).st.left)
            rw [unhide HL0] at CL
            clear h1 h2 HH CB CK HL0
            go_wp2_with fail
            refine (unhide CL).mono ?_
            rintro e wq ⟨rfl, rfl⟩
            clear CL
            go_wp2_with fail
            go_loopw [17, 18, 19] (fun q _ _ wq => ∃ (j l : Nat) (S' : Sto) (A' : Mm) (K' : Wk), j + l = n0 ∧ q = .int .i64 j ∧ Cq 400 S.w (tblF 12) dirF (fun i => (A.l (S.w i).l.toNat).has) (kq : Int) 0 S' A' K' l ∧ Held W (WHas W m b x (fun A w G => Has W w G m A) S' A' K') wr wq (fun _ => False) [(g11, .cells (waV (waTo S A 49)) 88), (g10, .cells TV 66)]) (fun q _ _ _ => n0 - (intOf q).toNat)
            case atStart => exact ⟨0, n0, S1, A, K1, by omega, rfl, unhide HC0, unhide O5⟩
            case round =>
              clear O5 HC0 hn59
              obtain ⟨j, l, S', A', K', hj, rfl, hc, hh⟩ := hrel
              have HH := hide hh
              have HC := hide hc
              clear hh hc
              cases l with
              | zero =>
                have hge : ¬ ((j : Int) < (n0 : Int)) := by omega
                go_upto_region 29 with fail
                have HDn := hide (unhide HC).dn
                have OM0 := hide (unhide HH).drop
                have OK1 : Hid (A'.ok 1000) := ok_mono (unhide HC).ok9 (by omega)
                have OK3 : Hid ((A'.crash []).n ≤ 1024 ∧ ∀ i, ((A'.crash []).l i).ok) := ⟨by show A'.n ≤ 1024; rw [(unhide HDn).n]; decide, (ok_crash (unhide OK1) []).2.2.1⟩
                have LNS := hide (fun (k : Nat) (hk : k < 49) (h0 : (S.w k).k ≠ 0) => (unhide HDn).line (unhide HD).good (unhide HD).calm (unhide HD).n hk h0)
                obtain ⟨F1, F2, F3⟩ := (unhide HDn).found
                have CF := hide ((unhide OM0).st.find (unhide OK1))
                rw [F1, F2, F3] at CF
                obtain ⟨LD1, LD2⟩ := (unhide HDn).loads (by decide) []
                have hd7 : (Lit.int .i64 (K'.d 7)).wf = true := by
                  have h := (unhide HDn).img.db 7 (by decide)
                  exact wf_i64 (by omega) (by omega)
                have CC := hide (fun (w' : World) G' (h' : Has W w' G' m A') => h'.crash_nil (unhide OK1))
                have CX : Hid (∀ (w' : World) (G' : Nat → Prop), Has W w' G' m (A'.crash []) → Calls Tryz.prog 44 #[.pointer (some ⟨m, 0, none⟩), .int .i64 10, .int .i64 (K'.d 7)] w' fun e w'' => e = .returned (.tuple #[.agg TV, .agg (iv .i64 (ldL (A'.crash []) 10 (K'.d 7))), .int .i64 0]) ∧ Keeps (fun _ => False) w' w'') := fun w' G' h' => by
                  obtain ⟨F, c, cs, q1, q2, q3, q4⟩ := h'
                  have q := xload_any q1 (unhide OK3).1 (unhide OK3).2 10 (K'.d 7) hd7
                  rw [LD1, LD2] at q
                  unfold LdPost at q
                  rw [show iv .i64 (rowE 49 S.w) = TV from unhide HTV] at q
                  exact q
                have lL := ldL_len (A'.crash []) 10 (K'.d 7)
                have AN3 := hide (unhide OK3).1
                clear F1 F2 F3 LD1 LD2 hd7 OK3 OK1 HDn HC HH
                generalize ldL (A'.crash []) 10 (K'.d 7) = LL at *
                generalize A'.crash [] = A3 at *
                generalize K'.d 7 = d7 at *
                have s4 := s4_sup [2, d7, (kq : Int), 1] rfl
                have X4 := hide (iv_one .i64 [2, d7, (kq : Int), 1])
                have SZ : Hid ((#[.int .i64 0, .int .i64 0, .int .i64 0, .int .i64 0] : Array Value).size = (iv .i64 [2, d7, (kq : Int), 1]).size) := rfl
                have Z4 : Hid ((Tryz.prog.info? 49).map (·.zero) = some (some (.agg #[.int .i64 0, .int .i64 0, .int .i64 0, .int .i64 0]))) := by show _ = _; kernel_rfl
                have K20 : Hid (∀ (w' : World) (g : Nat), w'.heap[g]? = some (.cells (iv .i64 [2, d7, (kq : Int), 1]) 49 (0, 0)) → w'.cell? ⟨g, 0, none⟩ = some (.int .i64 2) ∧ w'.cell? ⟨g, 1, none⟩ = some (.int .i64 d7) ∧ w'.cell? ⟨g, 2, none⟩ = some (.int .i64 (kq : Int))) := fun w' g h => by
                  refine ⟨?_, ?_, ?_⟩ <;> rw [cell_of_block h] <;> rfl
                generalize iv .i64 [2, d7, (kq : Int), 1] = SV at *
                go_wp2_with fail
                refine (unhide CF).mono ?_
                rintro e w8 ⟨rfl, h1, h2⟩
                have OM1 := hide (((unhide OM0).call (St' := fun w G => Has W w G m A') h1 h2).alloc (Has.stay W m A') (.cells SV 49))
                clear h1 h2 OM0 CF
                go_upto_region 30 with (first | (with_reducible refine wpList_allocZ (by with_unfolding_all rfl) 49 (by with_unfolding_all rfl) #[.int .i64 0, .int .i64 0, .int .i64 0, .int .i64 0] (unhide Z4) ?_) | (with_reducible refine wpList_store_row (by with_unfolding_all rfl) 49 _ _ (by with_unfolding_all rfl) w8.heap.size SV (by with_unfolding_all rfl) (by with_unfolding_all rfl) 49 #[.int .i64 0, .int .i64 0, .int .i64 0, .int .i64 0] (heap_new w8 _) s4 (unhide SZ) (unhide X4) ?_; rw [setRow_alloc]))
                obtain ⟨g20, hg20⟩ : ∃ g, g = w8.heap.size := ⟨_, rfl⟩
                rw [← hg20] at OM1 ⊢
                clear hg20
                generalize w8.alloc (.cells SV 49) = w9 at *
                obtain ⟨c0, c1, c2⟩ := unhide K20 w9 g20 ((unhide OM1).at g20 (.cells SV 49) (by simp))
                have hkk : ((kq : Int) != (kq : Int)) = false := by simp
                clear s4 X4 SZ Z4
                go_wp2_with fail
                refine (unhide CC _ _ (unhide OM1).st).mono ?_
                rintro e w10 ⟨rfl, h1, h2⟩
                have OM2 := hide ((unhide OM1).call (St' := fun w G => Has W w G m A3) h1 h2)
                clear h1 h2 CC OM1 c0 c1 c2 hkk
                obtain ⟨c0, c1, c2⟩ := unhide K20 w10 g20 ((unhide OM2).at g20 (.cells SV 49) (by simp))
                clear c0 c2 K20
                go_wp2_with fail
                refine (unhide CX _ _ (unhide OM2).st).mono ?_
                rintro e w11 ⟨rfl, hk⟩
                clear c1
                have OM3 := hide (((unhide OM2).keeps (Has.stay W m A3) hk).less (Has.stay W m A3) (L' := [(g11, .cells (waV (waTo S A 49)) 88), (g10, .cells TV 66)]) (by simp))
                clear hk CX OM2
                have ZT := hide zero_tab
                have Z7 : Hid ((Tryz.prog.info? 94).map (·.zero) = some (some (.agg (iv .i64 zs7)))) := hide zero_7z
                have Xt := hide (tabV_one S.w)
                rw [show tabV S.w = TV from unhide HTV] at Xt
                have XL := hide (iv_one .i64 LL)
                have SZt : Hid ((tabV fun _ => ze).size = TV.size) := by show _ = _; rw [← show tabV S.w = TV from unhide HTV, tabV_size, tabV_size]
                have SZL : Hid ((iv .i64 zs7).size = (iv .i64 LL).size) := by show _ = _; rw [iv_size, iv_size, lL]; rfl
                have s7 : (Tryz.prog.info? 94).map (·.size) = some (iv .i64 LL).size := by rw [iv_size, lL]; kernel_rfl
                have TC : Hid (∀ k : Nat, k < 49 → TV[3 * k]? = some (.int .i64 (S.w k).k) ∧ TV[3 * k + 2]? = some (.int .i64 (S.w k).l)) := fun k hk => by
                  rw [← show tabV S.w = TV from unhide HTV, tabV_cell _ _ (by omega), tabV_cell _ _ (by omega)]
                  unfold fl3
                  refine ⟨?_, ?_⟩
                  · rw [show 3 * k / 3 = k by omega, show 3 * k % 3 = 0 by omega]; rfl
                  · rw [show (3 * k + 2) / 3 = k by omega, show (3 * k + 2) % 3 = 2 by omega]; rfl
                generalize (tabV fun _ => ze) = ZTV at *
                generalize iv .i64 zs7 = ZLV at *
                generalize iv .i64 LL = LV at *
                obtain ⟨p1, p2, p3, p4⟩ := (unhide OM3).pair (Has.stay W m A3) ZTV TV 66 ZLV LV 94
                have O7 := hide p1
                have H8 := hide p2
                have H9 := hide p3
                have H9' : Hid ((((w11.alloc (.cells ZTV 66)).alloc (.cells ZLV 94)).setRow w11.heap.size TV).heap[(w11.alloc (.cells ZTV 66)).heap.size]? = some (.cells ZLV 94 (0, 0))) := by show _ = _; rw [p4]; exact p3
                have E9 := hide p4
                clear OM3 p1 p2 p3 p4 lL
                go_upto_region 34 with (first | (with_reducible refine wpList_allocZ (by with_unfolding_all rfl) 66 (by with_unfolding_all rfl) ZTV (unhide ZT) ?_) | (with_reducible refine wpList_allocZ (by with_unfolding_all rfl) 94 (by with_unfolding_all rfl) ZLV (unhide Z7) ?_) | (with_reducible refine wpList_store_row (by with_unfolding_all rfl) 66 _ _ (by with_unfolding_all rfl) w11.heap.size TV (by with_unfolding_all rfl) (by with_unfolding_all rfl) 66 ZTV (unhide H8) st (unhide SZt) (unhide Xt) ?_) | (with_reducible refine wpList_store_row (by with_unfolding_all rfl) 94 _ _ (by with_unfolding_all rfl) (w11.heap.size + 1) LV (by with_unfolding_all rfl) (by with_unfolding_all rfl) 94 ZLV (unhide H9) s7 (unhide SZL) (unhide XL) ?_) | (with_reducible refine wpList_store_row (by with_unfolding_all rfl) 94 _ _ (by with_unfolding_all rfl) (w11.alloc (.cells ZTV 66)).heap.size LV (by with_unfolding_all rfl) (by with_unfolding_all rfl) 94 ZLV (unhide H9') s7 (unhide SZL) (unhide XL) ?_))
                try rw [unhide E9]
                clear H8 H9 H9' E9 ZT Z7 Xt XL SZt SZL s7
                obtain ⟨g23, hg23⟩ : ∃ g, g = w11.heap.size := ⟨_, rfl⟩
                rw [← hg23] at O7 ⊢
                clear hg23
                generalize (((w11.alloc (.cells ZTV 66)).alloc (.cells ZLV 94)).setRow g23 TV).setRow (g23 + 1) LV = w12 at *
                have OM4 := hide ((unhide O7).less (Has.stay W m A3) (L' := [(g23, .cells TV 66), (g11, .cells (waV (waTo S A 49)) 88), (g10, .cells TV 66)]) (by simp))
                have G23 := hide ((unhide OM4).at g23 (.cells TV 66) (by simp))
                have G10 := hide ((unhide OM4).at g10 (.cells TV 66) (by simp))
                clear O7
                go_wp2_with (first | (with_reducible refine wpList_load_row_g (by with_unfolding_all rfl) 66 (.tmp 23) (by with_unfolding_all rfl) g23 (by with_unfolding_all rfl) _ _ _ _ (unhide G23) Tryz.underlying66 (by with_unfolding_all rfl) st ?_) | (with_reducible refine wpList_load_row_g (by with_unfolding_all rfl) 66 (.tmp 12) (by with_unfolding_all rfl) g10 (by with_unfolding_all rfl) _ _ _ _ (unhide G10) Tryz.underlying66 (by with_unfolding_all rfl) st ?_) | (with_reducible refine wpList_neqA (by with_unfolding_all rfl) 66 _ (.tmp 148) (.tmp 149) (by with_unfolding_all rfl) TV TV (by with_unfolding_all rfl) (by with_unfolding_all rfl) ztab_guard true (unhide EQT) ?_))
                clear G23 G10
                have OM5 : Hid (Held W (fun w G => Has W w G m A3) w12 w12 (fun _ => False) [(g23, .cells TV 66), (g11, .cells (waV (waTo S A 49)) 88), (g10, .cells TV 66)]) := ⟨(unhide OM4).1, (unhide OM4).2.1, fun _ h => h.elim⟩
                clear OM4
                go_loopw [26, 27, 28] (fun q _ _ wq => ∃ k : Nat, k ≤ 49 ∧ q = .int .i64 k ∧ Held W (fun w G => Has W w G m A3) w12 wq (fun _ => False) [(g23, .cells TV 66), (g11, .cells (waV (waTo S A 49)) 88), (g10, .cells TV 66)]) (fun q _ _ _ => 49 - (intOf q).toNat)
                case atStart => exact ⟨0, by omega, rfl, unhide OM5⟩
                case round =>
                  clear OM5
                  obtain ⟨k, hk, rfl, hh⟩ := hrel
                  have HH := hide hh
                  clear hh
                  by_cases hlk : k < 49
                  · have hk49 : (k : Int) < 49 := by omega
                    obtain ⟨t0, t2⟩ := unhide TC k hlk
                    have HC0 : Hid (∀ w' : World, w'.heap[g23]? = some (.cells TV 66 (0, 0)) → w'.cell? ⟨g23, k * 3, none⟩ = some (.int .i64 (S.w k).k) ∧ w'.cell? ⟨g23, k * 3 + 2, none⟩ = some (.int .i64 (S.w k).l)) := fun w' h => by rw [cell_of_block h, cell_of_block h, Nat.mul_comm k 3]; exact ⟨t0, t2⟩
                    clear t0 t2
                    have CL := hide ((unhide HH).st.loadZ (unhide AN3) (S.w k).l)
                    have ZL := hide zero_lnz
                    have L8 := lnV_size (A3.hasZ (S.w k).l)
                    have XL := hide (lnV_one (A3.hasZ (S.w k).l))
                    have s8 : (Tryz.prog.info? 83).map (·.size) = some (lnV (A3.hasZ (S.w k).l)).size := by rw [L8]; kernel_rfl
                    have SZ8 : Hid ((lnV fun _ => 0).size = (lnV (A3.hasZ (S.w k).l)).size) := by show _ = _; rw [L8, lnV_size]
                    clear L8
                    generalize (lnV fun _ => 0) = ZLN at *
                    by_cases h0 : (S.w k).k = 0
                    · rw [h0] at HC0
                      generalize lnV (A3.hasZ (S.w k).l) = XV at *
                      generalize A3.loadE (S.w k).l = le at *
                      generalize (S.w k).l = ly at *
                      obtain ⟨c0, c2⟩ := unhide HC0 _ ((unhide HH).at g23 (.cells TV 66) (by simp))
                      go_wp2_with fail
                      refine (unhide CL).mono ?_
                      rintro e w13 ⟨rfl, h1, h2⟩
                      clear c0 c2
                      have O4 := hide (((unhide HH).call (St' := fun w G => Has W w G m A3) h1 h2).alloc (Has.stay W m A3) (.cells XV 83))
                      clear h1 h2 HH CL
                      go_upto_region 40 with (first | (with_reducible refine wpList_allocZ (by with_unfolding_all rfl) 83 (by with_unfolding_all rfl) ZLN (unhide ZL) ?_) | (with_reducible refine wpList_store_row (by with_unfolding_all rfl) 83 _ _ (by with_unfolding_all rfl) w13.heap.size XV (by with_unfolding_all rfl) (by with_unfolding_all rfl) 83 ZLN (heap_new w13 _) s8 (unhide SZ8) (unhide XL) ?_; rw [setRow_alloc]))
                      obtain ⟨g27, hg27⟩ : ∃ g, g = w13.heap.size := ⟨_, rfl⟩
                      rw [← hg27] at O4 ⊢
                      clear hg27
                      generalize w13.alloc (.cells XV 83) = w14 at *
                      have O5 := hide ((unhide O4).less (Has.stay W m A3) (L' := [(g23, .cells TV 66), (g11, .cells (waV (waTo S A 49)) 88), (g10, .cells TV 66)]) (by simp))
                      obtain ⟨c0, c2⟩ := unhide HC0 _ ((unhide O5).at g23 (.cells TV 66) (by simp))
                      have O6 := hide ((unhide O5).drew (Has.stay W m A3))
                      have SS : Hid (w14.drew.cell? ⟨g23, k * 3, none⟩ = some (.int .i64 0)) := (unhide HC0 _ ((unhide O6).at g23 (.cells TV 66) (by simp))).1
                      refine wp_region_noPanic ?_
                      refine wp_region_held_drew (S := fun w' => w'.cell? ⟨g23, k * 3, none⟩ = some (.int .i64 0)) (by kernel_rfl) (unhide SS) (fun hHeld => ?_)
                      clear c0 c2 SS O4 O5
                      generalize w14.drew = w15 at *
                      refine take_at 0 165 (v := ?_) rfl rfl (by kernel_rfl) (by kernel_rfl) (by kernel_rfl) (Or.inl ⟨by rfl, ?_⟩) hHeld ?_
                      rotate_left
                      · intro w hSw; go_simp; with_reducible rfl
                      simp only [Act.put, List.setIfInBounds_toArray, List.set_cons_zero, List.set_cons_succ]
                      refine take_at 1 166 (v := .pointer (some ⟨g23, k * 3, none⟩)) rfl rfl (by kernel_rfl) (by kernel_rfl) (by kernel_rfl) (Or.inl ⟨by rfl, ?_⟩) hHeld ?_
                      · intro w hSw
                        first | (go_simp; done) | (go_simp; rfl) | (simp [execOp, Act.eval]; done)
                      simp only [Act.put, List.setIfInBounds_toArray, List.set_cons_zero, List.set_cons_succ]
                      refine take_at 2 167 (v := .pointer (some ⟨g23, k * 3, none⟩)) rfl rfl (by kernel_rfl) (by kernel_rfl) (by kernel_rfl) (Or.inl ⟨by rfl, ?_⟩) hHeld ?_
                      · intro w hSw
                        first | (go_simp; done) | (go_simp; rfl) | (simp [execOp, Act.eval]; done)
                      simp only [Act.put, List.setIfInBounds_toArray, List.set_cons_zero, List.set_cons_succ]
                      refine take_at 3 168 (v := ?_) rfl rfl (by kernel_rfl) (by kernel_rfl) (by kernel_rfl) (Or.inl ⟨by rfl, ?_⟩) hHeld ?_
                      rotate_left
                      · intro w hSw; go_simp; with_reducible rfl
                      simp only [Act.put, List.setIfInBounds_toArray, List.set_cons_zero, List.set_cons_succ]
                      refine take_at 4 169 (v := ?_) rfl rfl (by kernel_rfl) (by kernel_rfl) (by kernel_rfl) (Or.inl ⟨by rfl, ?_⟩) hHeld ?_
                      rotate_left
                      · intro w hSw; go_simp; with_reducible rfl
                      simp only [Act.put, List.setIfInBounds_toArray, List.set_cons_zero, List.set_cons_succ]
                      refine take_at 5 170 (v := ?_) rfl rfl (by kernel_rfl) (by kernel_rfl) (by kernel_rfl) (Or.inl ⟨by rfl, ?_⟩) hHeld ?_
                      rotate_left
                      · intro w hSw; go_simp; with_reducible rfl
                      simp only [Act.put, List.setIfInBounds_toArray, List.set_cons_zero, List.set_cons_succ]
                      refine take_at 6 171 rfl rfl (by kernel_rfl) (by kernel_rfl) (by kernel_rfl) (Or.inr ⟨by rfl, rfl⟩) hHeld ?_
                      simp only [Act.put, List.setIfInBounds_toArray, List.set_cons_zero, List.set_cons_succ]
                      refine take_at 7 172 rfl rfl (by kernel_rfl) (by kernel_rfl) (by kernel_rfl) (Or.inr ⟨by rfl, rfl⟩) hHeld ?_
                      simp only [Act.put, List.setIfInBounds_toArray, List.set_cons_zero, List.set_cons_succ]
                      refine take_at 8 173 rfl rfl (by kernel_rfl) (by kernel_rfl) (by kernel_rfl) (Or.inr ⟨by rfl, rfl⟩) hHeld ?_
                      simp only [Act.put, List.setIfInBounds_toArray, List.set_cons_zero, List.set_cons_succ]
                      refine take_at 9 174 rfl rfl (by kernel_rfl) (by kernel_rfl) (by kernel_rfl) (Or.inr ⟨by rfl, rfl⟩) hHeld ?_
                      simp only [Act.put, List.setIfInBounds_toArray, List.set_cons_zero, List.set_cons_succ]
                      refine take_at 10 175 rfl rfl (by kernel_rfl) (by kernel_rfl) (by kernel_rfl) (Or.inr ⟨by rfl, rfl⟩) hHeld ?_
                      simp only [Act.put, List.setIfInBounds_toArray, List.set_cons_zero, List.set_cons_succ]
                      refine take_at 11 176 rfl rfl (by kernel_rfl) (by kernel_rfl) (by kernel_rfl) (Or.inr ⟨by rfl, rfl⟩) hHeld ?_
                      simp only [Act.put, List.setIfInBounds_toArray, List.set_cons_zero, List.set_cons_succ]
                      refine take_at 12 177 rfl rfl (by kernel_rfl) (by kernel_rfl) (by kernel_rfl) (Or.inr ⟨by rfl, rfl⟩) hHeld ?_
                      simp only [Act.put, List.setIfInBounds_toArray, List.set_cons_zero, List.set_cons_succ]
                      refine take_at 13 178 rfl rfl (by kernel_rfl) (by kernel_rfl) (by kernel_rfl) (Or.inr ⟨by rfl, rfl⟩) hHeld ?_
                      simp only [Act.put, List.setIfInBounds_toArray, List.set_cons_zero, List.set_cons_succ]
                      refine take_at 14 179 rfl rfl (by kernel_rfl) (by kernel_rfl) (by kernel_rfl) (Or.inr ⟨by rfl, rfl⟩) hHeld ?_
                      simp only [Act.put, List.setIfInBounds_toArray, List.set_cons_zero, List.set_cons_succ]
                      refine take_at 15 180 rfl rfl (by kernel_rfl) (by kernel_rfl) (by kernel_rfl) (Or.inr ⟨by rfl, rfl⟩) hHeld ?_
                      simp only [Act.put, List.setIfInBounds_toArray, List.set_cons_zero, List.set_cons_succ]
                      refine take_at 16 181 (v := ?_) rfl rfl (by kernel_rfl) (by kernel_rfl) (by kernel_rfl) (Or.inl ⟨by rfl, ?_⟩) hHeld ?_
                      rotate_left
                      · intro w hSw; go_simp; with_reducible rfl
                      simp only [Act.put, List.setIfInBounds_toArray, List.set_cons_zero, List.set_cons_succ]
                      refine wpAnyH_done (by kernel_rfl) ?_ _
                      refine NoPanic.normal ?_
                      clear hHeld
                      go_wp2_with fail
                      go_roundw
                      case rel => exact ⟨k + 1, by omega, by go_num, unhide O6⟩
                      case measure => simp [intOf]; omega
                    · obtain ⟨q1, q2, q3⟩ := unhide LNS k hlk h0
                      have RK : Hid (∀ w' : World, w'.heap[g11]? = some (.cells (waV (waTo S A 49)) 88 (0, 0)) → w'.rangeAt g11 (k * 10 + 2) (lnV (A.hasZ (S.line (k : Int)))).toList) := fun w' h => wa_line hlk q3 h
                      have EQ := hide (fun (w : World) => zequal_ln 9998 (A.hasZ (S.line (k : Int))) w)
                      rw [q1, q2] at CL
                      rw [q2] at s8 XL SZ8
                      have hne : ((S.w k).k == 0) = false := by simpa using h0
                      have hne2 : ((S.w k).k != 0) = true := by simpa using h0
                      clear q1 q2 q3
                      generalize lnV (A.hasZ (S.line (k : Int))) = XV at *
                      generalize (S.w k).k = kk at *
                      generalize (S.w k).l = ly at *
                      have s8l : (Tryz.prog.info? 83).map (·.size) = some XV.toList.length := by rw [Array.length_toList]; exact s8
                      obtain ⟨c0, c2⟩ := unhide HC0 _ ((unhide HH).at g23 (.cells TV 66) (by simp))
                      go_wp2_with fail
                      refine (unhide CL).mono ?_
                      rintro e w13 ⟨rfl, h1, h2⟩
                      clear c0 c2
                      have O4 := hide (((unhide HH).call (St' := fun w G => Has W w G m A3) h1 h2).alloc (Has.stay W m A3) (.cells XV 83))
                      clear h1 h2 HH CL
                      go_upto_region 40 with (first | (with_reducible refine wpList_allocZ (by with_unfolding_all rfl) 83 (by with_unfolding_all rfl) ZLN (unhide ZL) ?_) | (with_reducible refine wpList_store_row (by with_unfolding_all rfl) 83 _ _ (by with_unfolding_all rfl) w13.heap.size XV (by with_unfolding_all rfl) (by with_unfolding_all rfl) 83 ZLN (heap_new w13 _) s8 (unhide SZ8) (unhide XL) ?_; rw [setRow_alloc]))
                      obtain ⟨g27, hg27⟩ : ∃ g, g = w13.heap.size := ⟨_, rfl⟩
                      rw [← hg27] at O4 ⊢
                      clear hg27
                      generalize w13.alloc (.cells XV 83) = w14 at *
                      have O5 := hide ((unhide O4).less (Has.stay W m A3) (L' := [(g23, .cells TV 66), (g11, .cells (waV (waTo S A 49)) 88), (g10, .cells TV 66)]) (by simp))
                      obtain ⟨c0, c2⟩ := unhide HC0 _ ((unhide O5).at g23 (.cells TV 66) (by simp))
                      have O6 := hide ((unhide O4).drew (Has.stay W m A3))
                      have SS : Hid (w14.drew.cell? ⟨g23, k * 3, none⟩ = some (.int .i64 kk) ∧ w14.drew.rangeAt g27 0 XV.toList ∧ w14.drew.rangeAt g11 (k * 10 + 2) XV.toList) := ⟨(unhide HC0 _ ((unhide O6).at g23 (.cells TV 66) (by simp))).1, fun j u hu => by rw [cell_of_block ((unhide O6).at g27 (.cells XV 83) (by simp)), Nat.zero_add, ← Array.getElem?_toList]; exact hu, unhide RK _ ((unhide O6).at g11 (.cells (waV (waTo S A 49)) 88) (by simp))⟩
                      refine wp_region_noPanic ?_
                      refine wp_region_held_drew (S := fun w' => w'.cell? ⟨g23, k * 3, none⟩ = some (.int .i64 kk) ∧ w'.rangeAt g27 0 XV.toList ∧ w'.rangeAt g11 (k * 10 + 2) XV.toList) (by kernel_rfl) (unhide SS) (fun hHeld => ?_)
                      clear c0 c2 SS O4 O5 RK
                      generalize w14.drew = w15 at *
                      refine take_at 0 165 (v := ?_) rfl rfl (by kernel_rfl) (by kernel_rfl) (by kernel_rfl) (Or.inl ⟨by rfl, ?_⟩) hHeld ?_
                      rotate_left
                      · intro w hSw; go_simp; with_reducible rfl
                      simp only [Act.put, List.setIfInBounds_toArray, List.set_cons_zero, List.set_cons_succ]
                      refine take_at 1 166 (v := .pointer (some ⟨g23, k * 3, none⟩)) rfl rfl (by kernel_rfl) (by kernel_rfl) (by kernel_rfl) (Or.inl ⟨by rfl, ?_⟩) hHeld ?_
                      · intro w hSw
                        first | (go_simp; done) | (go_simp; rfl) | (simp [execOp, Act.eval]; done)
                      simp only [Act.put, List.setIfInBounds_toArray, List.set_cons_zero, List.set_cons_succ]
                      refine take_at 2 167 (v := .pointer (some ⟨g23, k * 3, none⟩)) rfl rfl (by kernel_rfl) (by kernel_rfl) (by kernel_rfl) (Or.inl ⟨by rfl, ?_⟩) hHeld ?_
                      · intro w hSw
                        first | (go_simp; done) | (go_simp; rfl) | (simp [execOp, Act.eval]; done)
                      simp only [Act.put, List.setIfInBounds_toArray, List.set_cons_zero, List.set_cons_succ]
                      refine take_at 3 168 (v := ?_) rfl rfl (by kernel_rfl) (by kernel_rfl) (by kernel_rfl) (Or.inl ⟨by rfl, ?_⟩) hHeld ?_
                      rotate_left
                      · intro w hSw; obtain ⟨c1, c2, c3⟩ := hSw; go_simp; with_reducible rfl
                      simp only [Act.put, List.setIfInBounds_toArray, List.set_cons_zero, List.set_cons_succ]
                      refine take_at 4 169 (v := .bool true) rfl rfl (by kernel_rfl) (by kernel_rfl) (by kernel_rfl) (Or.inl ⟨by rfl, ?_⟩) hHeld ?_
                      · intro w hSw
                        first | (go_simp; done) | (go_simp; simp [hne]; done) | (go_simp; rw [hne]; rfl) | (go_simp; rw [hne2])
                      simp only [Act.put, List.setIfInBounds_toArray, List.set_cons_zero, List.set_cons_succ]
                      refine take_at 5 170 (v := ?_) rfl rfl (by kernel_rfl) (by kernel_rfl) (by kernel_rfl) (Or.inl ⟨by rfl, ?_⟩) hHeld ?_
                      rotate_left
                      · intro w hSw; go_simp; with_reducible rfl
                      simp only [Act.put, List.setIfInBounds_toArray, List.set_cons_zero, List.set_cons_succ]
                      refine take_at 6 171 (v := ?_) rfl rfl (by kernel_rfl) (by kernel_rfl) (by kernel_rfl) (Or.inl ⟨by rfl, ?_⟩) hHeld ?_
                      rotate_left
                      · intro w hSw; go_simp; with_reducible rfl
                      simp only [Act.put, List.setIfInBounds_toArray, List.set_cons_zero, List.set_cons_succ]
                      refine take_at 7 172 (v := ?_) rfl rfl (by kernel_rfl) (by kernel_rfl) (by kernel_rfl) (Or.inl ⟨by rfl, ?_⟩) hHeld ?_
                      rotate_left
                      · intro w hSw; go_simp; with_reducible rfl
                      simp only [Act.put, List.setIfInBounds_toArray, List.set_cons_zero, List.set_cons_succ]
                      refine take_at 8 173 (v := ?_) rfl rfl (by kernel_rfl) (by kernel_rfl) (by kernel_rfl) (Or.inl ⟨by rfl, ?_⟩) hHeld ?_
                      rotate_left
                      · intro w hSw; go_simp; with_reducible rfl
                      simp only [Act.put, List.setIfInBounds_toArray, List.set_cons_zero, List.set_cons_succ]
                      refine take_at 9 174 rfl rfl (by kernel_rfl) (by kernel_rfl) (by kernel_rfl) (yieldsIf_load_mid (by rfl) 83 _ rfl g27 0 rfl XV.toList _ (fun w' h => h.2.1) Tryz.underlying83 rfl s8l) hHeld ?_
                      simp only [Act.put, List.setIfInBounds_toArray, List.set_cons_zero, List.set_cons_succ]
                      refine take_at 10 175 (v := ?_) rfl rfl (by kernel_rfl) (by kernel_rfl) (by kernel_rfl) (Or.inl ⟨by rfl, ?_⟩) hHeld ?_
                      rotate_left
                      · intro w hSw; go_simp; with_reducible rfl
                      simp only [Act.put, List.setIfInBounds_toArray, List.set_cons_zero, List.set_cons_succ]
                      refine take_at 11 176 (v := .pointer (some ⟨g11, k * 10, none⟩)) rfl rfl (by kernel_rfl) (by kernel_rfl) (by kernel_rfl) (Or.inl ⟨by rfl, ?_⟩) hHeld ?_
                      · intro w hSw
                        first | (go_simp; done) | (go_simp; rfl) | (simp [execOp, Act.eval]; done)
                      simp only [Act.put, List.setIfInBounds_toArray, List.set_cons_zero, List.set_cons_succ]
                      refine take_at 12 177 (v := .pointer (some ⟨g11, k * 10 + 2, none⟩)) rfl rfl (by kernel_rfl) (by kernel_rfl) (by kernel_rfl) (Or.inl ⟨by rfl, ?_⟩) hHeld ?_
                      · intro w hSw
                        first | (go_simp; done) | (go_simp; rfl) | (simp [execOp, Act.eval]; done)
                      simp only [Act.put, List.setIfInBounds_toArray, List.set_cons_zero, List.set_cons_succ]
                      refine take_at 13 178 rfl rfl (by kernel_rfl) (by kernel_rfl) (by kernel_rfl) (yieldsIf_load_mid (by rfl) 83 _ rfl g11 (k * 10 + 2) rfl XV.toList _ (fun w' h => h.2.2) Tryz.underlying83 rfl s8l) hHeld ?_
                      simp only [Act.put, List.setIfInBounds_toArray, List.set_cons_zero, List.set_cons_succ]
                      refine take_at 14 179 rfl rfl (by kernel_rfl) (by kernel_rfl) (by kernel_rfl) (yieldsIf_neqA (by rfl) 83 _ (.tmp 174) (.tmp 178) rfl XV XV rfl rfl zln_guard true (unhide EQ)) hHeld ?_
                      simp only [Act.put, List.setIfInBounds_toArray, List.set_cons_zero, List.set_cons_succ]
                      refine take_at 15 180 (v := ?_) rfl rfl (by kernel_rfl) (by kernel_rfl) (by kernel_rfl) (Or.inl ⟨by rfl, ?_⟩) hHeld ?_
                      rotate_left
                      · intro w hSw; go_simp; with_reducible rfl
                      simp only [Act.put, List.setIfInBounds_toArray, List.set_cons_zero, List.set_cons_succ]
                      refine take_at 16 181 (v := ?_) rfl rfl (by kernel_rfl) (by kernel_rfl) (by kernel_rfl) (Or.inl ⟨by rfl, ?_⟩) hHeld ?_
                      rotate_left
                      · intro w hSw; go_simp; with_reducible rfl
                      simp only [Act.put, List.setIfInBounds_toArray, List.set_cons_zero, List.set_cons_succ]
                      refine wpAnyH_done (by kernel_rfl) ?_ _
                      refine NoPanic.normal ?_
                      clear hHeld
                      have O7 := hide ((unhide O6).less (Has.stay W m A3) (L' := [(g23, .cells TV 66), (g11, .cells (waV (waTo S A 49)) 88), (g10, .cells TV 66)]) (by simp))
                      go_wp2_with fail
                      go_roundw
                      case rel => exact ⟨k + 1, by omega, by go_num, unhide O7⟩
                      case measure => simp [intOf]; omega
                  · have hge : ¬ ((k : Int) < 49) := by omega
                    have KF := hide ((Has.stay W m A3).sz _ _ (unhide HH).st)
                    clear hlk
                    go_wp2_with fail
                    go_ret
                    exact ⟨rfl, (unhide KF).below (Nat.le_refl _) (fun _ h => h.elim)⟩
              | succ l =>
                have hlt0 : (j : Int) < (n0 : Int) := by omega
                obtain ⟨e1, e2, e3⟩ := (unhide HC).step (by decide)
                have CS := hide (wstep_any (unhide M) (unhide HH).st (unhide HC).sok (unhide HC).ok9 (unhide HC).fine)
                rw [e1, e2] at CS
                have HC1 := hide e3
                have hq : ((j : Int) == (n0 : Int) - 1) = decide (l = 0) := by
                  by_cases z : l = 0
                  · rw [decide_eq_true z]; simp; omega
                  · rw [decide_eq_false z]; simp; omega
                clear e1 e2 e3 HC
                generalize decide (l = 0) = dd at *
                have hdd : (dd != dd) = false := by simp
                generalize K'.stepS S' A' = S2 at *
                generalize K'.stepM S' A' = A2 at *
                generalize K'.stepK S' A' = K2 at *
                go_wp2_with fail
                refine (unhide CS).mono ?_
                rintro e w7 ⟨rfl, h1, h2⟩
                have O6 := hide ((unhide HH).call (St' := WHas W m b x (fun A w G => Has W w G m A) S2 A2 K2) h1 h2)
                clear h1 h2 CS HH
                by_cases hjn : j < n2
                · have hjn' : (j : Int) < (n2 : Int) := by omega
                  obtain ⟨xx, off, rfl, hx⟩ : ∃ b off, a2 = some ⟨b, off, none⟩ ∧ ∀ i, i < n2 → OOpAt W b (off + i * 4) (o2 i) := by
                    rcases unhide HO2 with h | h
                    · omega
                    · exact h
                  have hxj := hx j hjn
                  have R0 := hide (rangeAt_keeps hxj.1 ((WHas.stay (unhide M).toMemL b x S2 A2 K2).sz _ _ (unhide O6).st) id)
                  have hfit := hide hxj.2
                  have s4 : (Tryz.prog.info? 54).map (·.size) = some (o2 j).cells.length := by show _ = some 4; kernel_rfl
                  clear hx hxj
                  obtain ⟨kd, id, wd, v, hop⟩ : ∃ kd id wd v, o2 j = ⟨kd, id, wd, v⟩ := ⟨_, _, _, _, rfl⟩
                  rw [hop] at R0 hfit s4
                  clear hop
                  have R1 : Hid (w7.rangeAt xx (off + j * 4) [.int .i64 kd, .int .i64 id, .int .i64 wd, .int .u64 v]) := unhide R0
                  have s4' : (Tryz.prog.info? 54).map (·.size) = some [Value.int .i64 kd, .int .i64 id, .int .i64 wd, .int .u64 v].length := s4
                  have CC := hide ((unhide O6).st.call fun G' h' => change_any (unhide M).toMemL h' (unhide HC1).sok (unhide HC1).ok8 kd id wd v (unhide hfit))
                  have HC2 := hide ((unhide HC1).ch ⟨kd, id, wd, v⟩ (unhide hfit).2.2.2)
                  clear R0 s4 HC1
                  generalize chS S2 A2 ⟨kd, id, wd, v⟩ = S3 at *
                  generalize chM S2 A2 ⟨kd, id, wd, v⟩ = A3 at *
                  go_wp2_with (with_reducible refine wpList_load_mid (by with_unfolding_all rfl) 54 _ (by with_unfolding_all rfl) xx (off + j * 4) (by with_unfolding_all rfl) [.int .i64 kd, .int .i64 id, .int .i64 wd, .int .u64 v] _ (unhide R1) Tryz.underlying54 (by with_unfolding_all rfl) s4' ?_)
                  refine (unhide CC).mono ?_
                  rintro e w8 ⟨rfl, h1, h2⟩
                  have O7 := hide ((unhide O6).call (St' := WHas W m b x (fun A w G => Has W w G m A) S3 A3 K2) h1 h2)
                  clear h1 h2 CC R1 O6
                  go_wp2_with fail
                  go_roundw
                  case rel => exact ⟨j + 1, l, S3, A3, K2, by omega, by go_num, unhide HC2, unhide O7⟩
                  case measure => simp [intOf]; omega
                · have hjn' : ¬ ((j : Int) < (n2 : Int)) := by omega
                  go_wp2_with fail
                  go_roundw
                  case rel => exact ⟨j + 1, l, S2, A2, K2, by omega, by go_num, (unhide HC1).less, unhide O6⟩
                  case measure => simp [intOf]; omega
      · go_upto_region 9 with fail
        clear h1 h2
        generalize (i : Int) = lasti at *
        have T1 := hide (WHas.stay (unhide M).toMemL b x S A K0)
        have CT := hide (table_obj (unhide HW).rep)
        have st := s147_tab S.w
        have Zt := hide zero_tab
        have Xt := hide (tabV_one S.w)
        have SZt : Hid ((tabV fun _ => ze).size = (tabV S.w).size) := by show _ = _; rw [tabV_size, tabV_size]
        have EQT := hide (fun (w : World) => zequal_tab S.w w)
        generalize hTV : tabV S.w = TV at *
        have HTV := hide hTV
        clear hTV
        generalize (tabV fun _ => ze) = ZT at *
        go_wp2_with fail
        refine (unhide CT).mono ?_
        rintro e w2 ⟨rfl, hb⟩
        have O1 := hide (((Held.start (unhide T1) (unhide HW)).below (unhide T1) hb).alloc (unhide T1) (.cells TV 66))
        clear hb CT HW
        go_upto_region 10 with (first | (with_reducible refine wpList_allocZ (by with_unfolding_all rfl) 66 (by with_unfolding_all rfl) ZT (unhide Zt) ?_) | (with_reducible refine wpList_store_row (by with_unfolding_all rfl) 66 _ _ (by with_unfolding_all rfl) w2.heap.size TV (by with_unfolding_all rfl) (by with_unfolding_all rfl) 66 ZT (heap_new w2 _) st (unhide SZt) (unhide Xt) ?_; rw [setRow_alloc]))
        obtain ⟨g10, hg10⟩ : ∃ g, g = w2.heap.size := ⟨_, rfl⟩
        rw [← hg10] at O1 ⊢
        clear hg10
        generalize w2.alloc (.cells TV 66) = w3 at *
        have O2 := hide ((unhide O1).alloc (unhide T1) (.cells (waV (waTo S A 0)) 88))
        have h10 : g10 < w3.heap.size := (unhide O1).lt (g10, _) List.mem_cons_self
        have Zw := hide (zero_wa S A)
        have Bw := hide (built_wa S A)
        have sw := s490 (waTo S A 0)
        have Xw := hide (waV0_one S A)
        generalize hWV : waV (waTo S A 0) = WV at *
        clear O1 Zt SZt Xt
        go_upto_region 12 with (first | (with_reducible refine wpList_build0 (by with_unfolding_all rfl) 88 (by with_unfolding_all rfl) WV (unhide Bw) ?_) | (with_reducible refine wpList_allocZ (by with_unfolding_all rfl) 88 (by with_unfolding_all rfl) WV (unhide Zw) ?_) | (with_reducible refine wpList_store_row (by with_unfolding_all rfl) 88 _ _ (by with_unfolding_all rfl) w3.heap.size WV (by with_unfolding_all rfl) (by with_unfolding_all rfl) 88 WV (heap_new w3 _) sw rfl (unhide Xw) ?_; rw [setRow_alloc]))
        obtain ⟨g11, hg11⟩ : ∃ g, g = w3.heap.size := ⟨_, rfl⟩
        rw [← hg11] at O2 h10 ⊢
        clear hg11
        generalize w3.alloc (.cells WV 88) = w4 at *
        rw [← hWV] at O2
        clear Zw Bw sw Xw hWV
        have hAn : A.n ≤ 1024 := by rw [(unhide HD).n]; decide
        have CG := hide (fun (w' : World) G' (h' : WHas W m b x (fun A w G => Has W w G m A) S A K0 w' G') (z : Int) => h'.call fun G'' h'' => get_any (unhide M).toMemL h'' hAn z)
        go_wp2_with fail
        go_loopw [14] (fun q wq => ∃ k : Nat, k ≤ 49 ∧ q = .int .i64 k ∧ Held W (WHas W m b x (fun A w G => Has W w G m A) S A K0) wr wq (fun _ => False) [(g11, .cells (waV (waTo S A k)) 88), (g10, .cells TV 66)]) (fun q _ => 49 - (intOf q).toNat)
        case atStart => exact ⟨0, by omega, rfl, unhide O2⟩
        case round =>
          clear O2
          obtain ⟨k, hk, rfl, hh⟩ := hrel
          have HH := hide hh
          clear hh
          by_cases hlk : k < 49
          · have hk49 : (k : Int) < 49 := by omega
            have CGk := hide (unhide CG _ _ (unhide HH).st (k : Int))
            have HG : Hid (getT S A (k : Int) = .tuple #[.agg (S.getV A (k : Int)), .int .i64 (S.getE A (k : Int))]) := rfl
            rw [unhide HG] at CGk
            have hsz := getV_size S A (k : Int)
            have s10 : (Tryz.prog.info? 87).map (·.size) = some (S.getV A (k : Int)).size := by rw [hsz]; kernel_rfl
            have X10 := hide (getV_one S A (k : Int))
            have NX := hide (waTo_next S A k)
            generalize S.getE A (k : Int) = er at *
            have KP := hide (fun (w' : World) (h : w'.heap[g11]? = some (.cells (waV (waTo S A k)) 88 (0, 0))) => wa_put (S.getV A (k : Int)) hsz hlk h)
            rw [unhide NX] at KP
            clear HG NX
            generalize S.getV A (k : Int) = OV at *
            go_wp2_with fail
            refine (unhide CGk).mono ?_
            rintro e w5 ⟨rfl, h1, h2⟩
            have O3 := hide ((unhide HH).call (St' := WHas W m b x (fun A w G => Has W w G m A) S A K0) h1 h2)
            clear h1 h2 HH CGk
            have bk := (unhide O3).at g11 (.cells (waV (waTo S A k)) 88) (by simp)
            have TB : Hid (w5.there g11 (k * 10) OV.size) := by rw [hsz]; exact wa_there hlk bk
            have O4 := hide (((unhide O3).turnOwn (unhide T1) g11 (.cells (waV (waTo S A k)) 88) _ (by simp) (keeps_sets OV.toList (k * 10) _ _ (Keeps.refl _ _)) (unhide KP _ bk)).less (unhide T1) (L' := [(g11, .cells (waV (waTo S A (k + 1))) 88), (g10, .cells TV 66)]) (fun p hp => by
              rcases List.mem_cons.1 hp with rfl | hp
              · exact List.mem_cons_self
              · rcases List.mem_cons.1 hp with rfl | hp
                · exact List.mem_cons_of_mem _ (List.mem_filter.2 ⟨by simp, by simp; omega⟩)
                · cases hp))
            clear bk KP O3
            go_wp2_with (with_reducible refine wpList_store_mid (by with_unfolding_all rfl) 87 _ _ (by with_unfolding_all rfl) g11 (k * 10) OV (by with_unfolding_all rfl) (by with_unfolding_all rfl) (unhide TB) s10 (unhide X10) ?_)
            go_roundw
            case rel => exact ⟨k + 1, by omega, by go_num, unhide O4⟩
            case measure => simp [intOf]; omega
          · have hge : ¬ ((k : Int) < 49) := by omega
            have ek : k = 49 := by omega
            rw [ek] at HH
            clear hlk ek
            go_upto_region 15 with fail
            clear hge
            generalize (k : Int) = lastk at *
            clear CG
            obtain ⟨s1, s2, s3⟩ := unhide GS S A i (kq : Int) (unhide HD) (unhide HB) hi20 ⟨by omega, by unfold two40; omega⟩
            have HC0 := hide s3
            have CB := hide (wbegin_any (unhide M) (unhide HH).st (kq : Int))
            rw [s1] at CB
            have hn59 : ¬ (((K0.beginK S (kq : Int)).l.length : Int) > 59) := by omega
            have hL : Hid ((K0.beginK S (kq : Int)).l.length = (K0.beginK S (kq : Int)).l.length) := rfl
            generalize hn0 : (K0.beginK S (kq : Int)).l.length = n0 at s3 HC0 hn59
            rw [hn0] at hL
            have HL0 := hide hn0
            clear s1 s2 s3 hL hn0 GS
            generalize K0.beginS S (kq : Int) = S1 at *
            generalize K0.beginK S (kq : Int) = K1 at *
            go_wp2_with fail
            refine (unhide CK _).mono ?_
            rintro e w5 ⟨rfl, rfl⟩
            go_wp2_with fail
            refine (unhide CB).mono ?_
            rintro e w6 ⟨rfl, h1, h2⟩
            have O5 := hide ((unhide HH).call (St' := WHas W m b x (fun A w G => Has W w G m A) S1 A K1) h1 h2)
            have CL := hide ((unhide O5).st.left)
            rw [unhide HL0] at CL
            clear h1 h2 HH CB CK HL0
            go_wp2_with fail
            refine (unhide CL).mono ?_
            rintro e wq ⟨rfl, rfl⟩
            clear CL
            go_wp2_with fail
            go_loopw [17, 18, 19] (fun q _ _ wq => ∃ (j l : Nat) (S' : Sto) (A' : Mm) (K' : Wk), j + l = n0 ∧ q = .int .i64 j ∧ Cq 400 S.w (tblF 12) dirF (fun i => (A.l (S.w i).l.toNat).has) (kq : Int) 0 S' A' K' l ∧ Held W (WHas W m b x (fun A w G => Has W w G m A) S' A' K') wr wq (fun _ => False) [(g11, .cells (waV (waTo S A 49)) 88), (g10, .cells TV 66)]) (fun q _ _ _ => n0 - (intOf q).toNat)
            case atStart => exact ⟨0, n0, S1, A, K1, by omega, rfl, unhide HC0, unhide O5⟩
            case round =>
              clear O5 HC0 hn59
              obtain ⟨j, l, S', A', K', hj, rfl, hc, hh⟩ := hrel
              have HH := hide hh
              have HC := hide hc
              clear hh hc
              cases l with
              | zero =>
                have hge : ¬ ((j : Int) < (n0 : Int)) := by omega
                go_upto_region 29 with fail
                have HDn := hide (unhide HC).dn
                have OM0 := hide (unhide HH).drop
                have OK1 : Hid (A'.ok 1000) := ok_mono (unhide HC).ok9 (by omega)
                have OK3 : Hid ((A'.crash []).n ≤ 1024 ∧ ∀ i, ((A'.crash []).l i).ok) := ⟨by show A'.n ≤ 1024; rw [(unhide HDn).n]; decide, (ok_crash (unhide OK1) []).2.2.1⟩
                have LNS := hide (fun (k : Nat) (hk : k < 49) (h0 : (S.w k).k ≠ 0) => (unhide HDn).line (unhide HD).good (unhide HD).calm (unhide HD).n hk h0)
                obtain ⟨F1, F2, F3⟩ := (unhide HDn).found
                have CF := hide ((unhide OM0).st.find (unhide OK1))
                rw [F1, F2, F3] at CF
                obtain ⟨LD1, LD2⟩ := (unhide HDn).loads (by decide) []
                have hd7 : (Lit.int .i64 (K'.d 7)).wf = true := by
                  have h := (unhide HDn).img.db 7 (by decide)
                  exact wf_i64 (by omega) (by omega)
                have CC := hide (fun (w' : World) G' (h' : Has W w' G' m A') => h'.crash_nil (unhide OK1))
                have CX : Hid (∀ (w' : World) (G' : Nat → Prop), Has W w' G' m (A'.crash []) → Calls Tryz.prog 44 #[.pointer (some ⟨m, 0, none⟩), .int .i64 10, .int .i64 (K'.d 7)] w' fun e w'' => e = .returned (.tuple #[.agg TV, .agg (iv .i64 (ldL (A'.crash []) 10 (K'.d 7))), .int .i64 0]) ∧ Keeps (fun _ => False) w' w'') := fun w' G' h' => by
                  obtain ⟨F, c, cs, q1, q2, q3, q4⟩ := h'
                  have q := xload_any q1 (unhide OK3).1 (unhide OK3).2 10 (K'.d 7) hd7
                  rw [LD1, LD2] at q
                  unfold LdPost at q
                  rw [show iv .i64 (rowE 49 S.w) = TV from unhide HTV] at q
                  exact q
                have lL := ldL_len (A'.crash []) 10 (K'.d 7)
                have AN3 := hide (unhide OK3).1
                clear F1 F2 F3 LD1 LD2 hd7 OK3 OK1 HDn HC HH
                generalize ldL (A'.crash []) 10 (K'.d 7) = LL at *
                generalize A'.crash [] = A3 at *
                generalize K'.d 7 = d7 at *
                have s4 := s4_sup [2, d7, (kq : Int), 1] rfl
                have X4 := hide (iv_one .i64 [2, d7, (kq : Int), 1])
                have SZ : Hid ((#[.int .i64 0, .int .i64 0, .int .i64 0, .int .i64 0] : Array Value).size = (iv .i64 [2, d7, (kq : Int), 1]).size) := rfl
                have Z4 : Hid ((Tryz.prog.info? 49).map (·.zero) = some (some (.agg #[.int .i64 0, .int .i64 0, .int .i64 0, .int .i64 0]))) := by show _ = _; kernel_rfl
                have K20 : Hid (∀ (w' : World) (g : Nat), w'.heap[g]? = some (.cells (iv .i64 [2, d7, (kq : Int), 1]) 49 (0, 0)) → w'.cell? ⟨g, 0, none⟩ = some (.int .i64 2) ∧ w'.cell? ⟨g, 1, none⟩ = some (.int .i64 d7) ∧ w'.cell? ⟨g, 2, none⟩ = some (.int .i64 (kq : Int))) := fun w' g h => by
                  refine ⟨?_, ?_, ?_⟩ <;> rw [cell_of_block h] <;> rfl
                generalize iv .i64 [2, d7, (kq : Int), 1] = SV at *
                go_wp2_with fail
                refine (unhide CF).mono ?_
                rintro e w8 ⟨rfl, h1, h2⟩
                have OM1 := hide (((unhide OM0).call (St' := fun w G => Has W w G m A') h1 h2).alloc (Has.stay W m A') (.cells SV 49))
                clear h1 h2 OM0 CF
                go_upto_region 30 with (first | (with_reducible refine wpList_allocZ (by with_unfolding_all rfl) 49 (by with_unfolding_all rfl) #[.int .i64 0, .int .i64 0, .int .i64 0, .int .i64 0] (unhide Z4) ?_) | (with_reducible refine wpList_store_row (by with_unfolding_all rfl) 49 _ _ (by with_unfolding_all rfl) w8.heap.size SV (by with_unfolding_all rfl) (by with_unfolding_all rfl) 49 #[.int .i64 0, .int .i64 0, .int .i64 0, .int .i64 0] (heap_new w8 _) s4 (unhide SZ) (unhide X4) ?_; rw [setRow_alloc]))
                obtain ⟨g20, hg20⟩ : ∃ g, g = w8.heap.size := ⟨_, rfl⟩
                rw [← hg20] at OM1 ⊢
                clear hg20
                generalize w8.alloc (.cells SV 49) = w9 at *
                obtain ⟨c0, c1, c2⟩ := unhide K20 w9 g20 ((unhide OM1).at g20 (.cells SV 49) (by simp))
                have hkk : ((kq : Int) != (kq : Int)) = false := by simp
                clear s4 X4 SZ Z4
                go_wp2_with fail
                refine (unhide CC _ _ (unhide OM1).st).mono ?_
                rintro e w10 ⟨rfl, h1, h2⟩
                have OM2 := hide ((unhide OM1).call (St' := fun w G => Has W w G m A3) h1 h2)
                clear h1 h2 CC OM1 c0 c1 c2 hkk
                obtain ⟨c0, c1, c2⟩ := unhide K20 w10 g20 ((unhide OM2).at g20 (.cells SV 49) (by simp))
                clear c0 c2 K20
                go_wp2_with fail
                refine (unhide CX _ _ (unhide OM2).st).mono ?_
                rintro e w11 ⟨rfl, hk⟩
                clear c1
                have OM3 := hide (((unhide OM2).keeps (Has.stay W m A3) hk).less (Has.stay W m A3) (L' := [(g11, .cells (waV (waTo S A 49)) 88), (g10, .cells TV 66)]) (by simp))
                clear hk CX OM2
                have ZT := hide zero_tab
                have Z7 : Hid ((Tryz.prog.info? 94).map (·.zero) = some (some (.agg (iv .i64 zs7)))) := hide zero_7z
                have Xt := hide (tabV_one S.w)
                rw [show tabV S.w = TV from unhide HTV] at Xt
                have XL := hide (iv_one .i64 LL)
                have SZt : Hid ((tabV fun _ => ze).size = TV.size) := by show _ = _; rw [← show tabV S.w = TV from unhide HTV, tabV_size, tabV_size]
                have SZL : Hid ((iv .i64 zs7).size = (iv .i64 LL).size) := by show _ = _; rw [iv_size, iv_size, lL]; rfl
                have s7 : (Tryz.prog.info? 94).map (·.size) = some (iv .i64 LL).size := by rw [iv_size, lL]; kernel_rfl
                have TC : Hid (∀ k : Nat, k < 49 → TV[3 * k]? = some (.int .i64 (S.w k).k) ∧ TV[3 * k + 2]? = some (.int .i64 (S.w k).l)) := fun k hk => by
                  rw [← show tabV S.w = TV from unhide HTV, tabV_cell _ _ (by omega), tabV_cell _ _ (by omega)]
                  unfold fl3
                  refine ⟨?_, ?_⟩
                  · rw [show 3 * k / 3 = k by omega, show 3 * k % 3 = 0 by omega]; rfl
                  · rw [show (3 * k + 2) / 3 = k by omega, show (3 * k + 2) % 3 = 2 by omega]; rfl
                generalize (tabV fun _ => ze) = ZTV at *
                generalize iv .i64 zs7 = ZLV at *
                generalize iv .i64 LL = LV at *
                obtain ⟨p1, p2, p3, p4⟩ := (unhide OM3).pair (Has.stay W m A3) ZTV TV 66 ZLV LV 94
                have O7 := hide p1
                have H8 := hide p2
                have H9 := hide p3
                have H9' : Hid ((((w11.alloc (.cells ZTV 66)).alloc (.cells ZLV 94)).setRow w11.heap.size TV).heap[(w11.alloc (.cells ZTV 66)).heap.size]? = some (.cells ZLV 94 (0, 0))) := by show _ = _; rw [p4]; exact p3
                have E9 := hide p4
                clear OM3 p1 p2 p3 p4 lL
                go_upto_region 34 with (first | (with_reducible refine wpList_allocZ (by with_unfolding_all rfl) 66 (by with_unfolding_all rfl) ZTV (unhide ZT) ?_) | (with_reducible refine wpList_allocZ (by with_unfolding_all rfl) 94 (by with_unfolding_all rfl) ZLV (unhide Z7) ?_) | (with_reducible refine wpList_store_row (by with_unfolding_all rfl) 66 _ _ (by with_unfolding_all rfl) w11.heap.size TV (by with_unfolding_all rfl) (by with_unfolding_all rfl) 66 ZTV (unhide H8) st (unhide SZt) (unhide Xt) ?_) | (with_reducible refine wpList_store_row (by with_unfolding_all rfl) 94 _ _ (by with_unfolding_all rfl) (w11.heap.size + 1) LV (by with_unfolding_all rfl) (by with_unfolding_all rfl) 94 ZLV (unhide H9) s7 (unhide SZL) (unhide XL) ?_) | (with_reducible refine wpList_store_row (by with_unfolding_all rfl) 94 _ _ (by with_unfolding_all rfl) (w11.alloc (.cells ZTV 66)).heap.size LV (by with_unfolding_all rfl) (by with_unfolding_all rfl) 94 ZLV (unhide H9') s7 (unhide SZL) (unhide XL) ?_))
                try rw [unhide E9]
                clear H8 H9 H9' E9 ZT Z7 Xt XL SZt SZL s7
                obtain ⟨g23, hg23⟩ : ∃ g, g = w11.heap.size := ⟨_, rfl⟩
                rw [← hg23] at O7 ⊢
                clear hg23
                generalize (((w11.alloc (.cells ZTV 66)).alloc (.cells ZLV 94)).setRow g23 TV).setRow (g23 + 1) LV = w12 at *
                have OM4 := hide ((unhide O7).less (Has.stay W m A3) (L' := [(g23, .cells TV 66), (g11, .cells (waV (waTo S A 49)) 88), (g10, .cells TV 66)]) (by simp))
                have G23 := hide ((unhide OM4).at g23 (.cells TV 66) (by simp))
                have G10 := hide ((unhide OM4).at g10 (.cells TV 66) (by simp))
                clear O7
                go_wp2_with (first | (with_reducible refine wpList_load_row_g (by with_unfolding_all rfl) 66 (.tmp 23) (by with_unfolding_all rfl) g23 (by with_unfolding_all rfl) _ _ _ _ (unhide G23) Tryz.underlying66 (by with_unfolding_all rfl) st ?_) | (with_reducible refine wpList_load_row_g (by with_unfolding_all rfl) 66 (.tmp 12) (by with_unfolding_all rfl) g10 (by with_unfolding_all rfl) _ _ _ _ (unhide G10) Tryz.underlying66 (by with_unfolding_all rfl) st ?_) | (with_reducible refine wpList_neqA (by with_unfolding_all rfl) 66 _ (.tmp 148) (.tmp 149) (by with_unfolding_all rfl) TV TV (by with_unfolding_all rfl) (by with_unfolding_all rfl) ztab_guard true (unhide EQT) ?_))
                clear G23 G10
                have OM5 : Hid (Held W (fun w G => Has W w G m A3) w12 w12 (fun _ => False) [(g23, .cells TV 66), (g11, .cells (waV (waTo S A 49)) 88), (g10, .cells TV 66)]) := ⟨(unhide OM4).1, (unhide OM4).2.1, fun _ h => h.elim⟩
                clear OM4
                go_loopw [26, 27, 28] (fun q _ _ wq => ∃ k : Nat, k ≤ 49 ∧ q = .int .i64 k ∧ Held W (fun w G => Has W w G m A3) w12 wq (fun _ => False) [(g23, .cells TV 66), (g11, .cells (waV (waTo S A 49)) 88), (g10, .cells TV 66)]) (fun q _ _ _ => 49 - (intOf q).toNat)
                case atStart => exact ⟨0, by omega, rfl, unhide OM5⟩
                case round =>
                  clear OM5
                  obtain ⟨k, hk, rfl, hh⟩ := hrel
                  have HH := hide hh
                  clear hh
                  by_cases hlk : k < 49
                  · have hk49 : (k : Int) < 49 := by omega
                    obtain ⟨t0, t2⟩ := unhide TC k hlk
                    have HC0 : Hid (∀ w' : World, w'.heap[g23]? = some (.cells TV 66 (0, 0)) → w'.cell? ⟨g23, k * 3, none⟩ = some (.int .i64 (S.w k).k) ∧ w'.cell? ⟨g23, k * 3 + 2, none⟩ = some (.int .i64 (S.w k).l)) := fun w' h => by rw [cell_of_block h, cell_of_block h, Nat.mul_comm k 3]; exact ⟨t0, t2⟩
                    clear t0 t2
                    have CL := hide ((unhide HH).st.loadZ (unhide AN3) (S.w k).l)
                    have ZL := hide zero_lnz
                    have L8 := lnV_size (A3.hasZ (S.w k).l)
                    have XL := hide (lnV_one (A3.hasZ (S.w k).l))
                    have s8 : (Tryz.prog.info? 83).map (·.size) = some (lnV (A3.hasZ (S.w k).l)).size := by rw [L8]; kernel_rfl
                    have SZ8 : Hid ((lnV fun _ => 0).size = (lnV (A3.hasZ (S.w k).l)).size) := by show _ = _; rw [L8, lnV_size]
                    clear L8
                    generalize (lnV fun _ => 0) = ZLN at *
                    by_cases h0 : (S.w k).k = 0
                    · rw [h0] at HC0
                      generalize lnV (A3.hasZ (S.w k).l) = XV at *
                      generalize A3.loadE (S.w k).l = le at *
                      generalize (S.w k).l = ly at *
                      obtain ⟨c0, c2⟩ := unhide HC0 _ ((unhide HH).at g23 (.cells TV 66) (by simp))
                      go_wp2_with fail
                      refine (unhide CL).mono ?_
                      rintro e w13 ⟨rfl, h1, h2⟩
                      clear c0 c2
                      have O4 := hide (((unhide HH).call (St' := fun w G => Has W w G m A3) h1 h2).alloc (Has.stay W m A3) (.cells XV 83))
                      clear h1 h2 HH CL
                      go_upto_region 40 with (first | (with_reducible refine wpList_allocZ (by with_unfolding_all rfl) 83 (by with_unfolding_all rfl) ZLN (unhide ZL) ?_) | (with_reducible refine wpList_store_row (by with_unfolding_all rfl) 83 _ _ (by with_unfolding_all rfl) w13.heap.size XV (by with_unfolding_all rfl) (by with_unfolding_all rfl) 83 ZLN (heap_new w13 _) s8 (unhide SZ8) (unhide XL) ?_; rw [setRow_alloc]))
                      obtain ⟨g27, hg27⟩ : ∃ g, g = w13.heap.size := ⟨_, rfl⟩
                      rw [← hg27] at O4 ⊢
                      clear hg27
                      generalize w13.alloc (.cells XV 83) = w14 at *
                      have O5 := hide ((unhide O4).less (Has.stay W m A3) (L' := [(g23, .cells TV 66), (g11, .cells (waV (waTo S A 49)) 88), (g10, .cells TV 66)]) (by simp))
                      obtain ⟨c0, c2⟩ := unhide HC0 _ ((unhide O5).at g23 (.cells TV 66) (by simp))
                      have O6 := hide ((unhide O5).drew (Has.stay W m A3))
                      have SS : Hid (w14.drew.cell? ⟨g23, k * 3, none⟩ = some (.int .i64 0)) := (unhide HC0 _ ((unhide O6).at g23 (.cells TV 66) (by simp))).1
                      refine wp_region_noPanic ?_
                      refine wp_region_held_drew (S := fun w' => w'.cell? ⟨g23, k * 3, none⟩ = some (.int .i64 0)) (by kernel_rfl) (unhide SS) (fun hHeld => ?_)
                      clear c0 c2 SS O4 O5
                      generalize w14.drew = w15 at *
                      refine take_at 0 165 (v := ?_) rfl rfl (by kernel_rfl) (by kernel_rfl) (by kernel_rfl) (Or.inl ⟨by rfl, ?_⟩) hHeld ?_
                      rotate_left
                      · intro w hSw; go_simp; with_reducible rfl
                      simp only [Act.put, List.setIfInBounds_toArray, List.set_cons_zero, List.set_cons_succ]
                      refine take_at 1 166 (v := .pointer (some ⟨g23, k * 3, none⟩)) rfl rfl (by kernel_rfl) (by kernel_rfl) (by kernel_rfl) (Or.inl ⟨by rfl, ?_⟩) hHeld ?_
                      · intro w hSw
                        first | (go_simp; done) | (go_simp; rfl) | (simp [execOp, Act.eval]; done)
                      simp only [Act.put, List.setIfInBounds_toArray, List.set_cons_zero, List.set_cons_succ]
                      refine take_at 2 167 (v := .pointer (some ⟨g23, k * 3, none⟩)) rfl rfl (by kernel_rfl) (by kernel_rfl) (by kernel_rfl) (Or.inl ⟨by rfl, ?_⟩) hHeld ?_
                      · intro w hSw
                        first | (go_simp; done) | (go_simp; rfl) | (simp [execOp, Act.eval]; done)
                      simp only [Act.put, List.setIfInBounds_toArray, List.set_cons_zero, List.set_cons_succ]
                      refine take_at 3 168 (v := ?_) rfl rfl (by kernel_rfl) (by kernel_rfl) (by kernel_rfl) (Or.inl ⟨by rfl, ?_⟩) hHeld ?_
                      rotate_left
                      · intro w hSw; go_simp; with_reducible rfl
                      simp only [Act.put, List.setIfInBounds_toArray, List.set_cons_zero, List.set_cons_succ]
                      refine take_at 4 169 (v := ?_) rfl rfl (by kernel_rfl) (by kernel_rfl) (by kernel_rfl) (Or.inl ⟨by rfl, ?_⟩) hHeld ?_
                      rotate_left
                      · intro w hSw; go_simp; with_reducible rfl
                      simp only [Act.put, List.setIfInBounds_toArray, List.set_cons_zero, List.set_cons_succ]
                      refine take_at 5 170 (v := ?_) rfl rfl (by kernel_rfl) (by kernel_rfl) (by kernel_rfl) (Or.inl ⟨by rfl, ?_⟩) hHeld ?_
                      rotate_left
                      · intro w hSw; go_simp; with_reducible rfl
                      simp only [Act.put, List.setIfInBounds_toArray, List.set_cons_zero, List.set_cons_succ]
                      refine take_at 6 171 rfl rfl (by kernel_rfl) (by kernel_rfl) (by kernel_rfl) (Or.inr ⟨by rfl, rfl⟩) hHeld ?_
                      simp only [Act.put, List.setIfInBounds_toArray, List.set_cons_zero, List.set_cons_succ]
                      refine take_at 7 172 rfl rfl (by kernel_rfl) (by kernel_rfl) (by kernel_rfl) (Or.inr ⟨by rfl, rfl⟩) hHeld ?_
                      simp only [Act.put, List.setIfInBounds_toArray, List.set_cons_zero, List.set_cons_succ]
                      refine take_at 8 173 rfl rfl (by kernel_rfl) (by kernel_rfl) (by kernel_rfl) (Or.inr ⟨by rfl, rfl⟩) hHeld ?_
                      simp only [Act.put, List.setIfInBounds_toArray, List.set_cons_zero, List.set_cons_succ]
                      refine take_at 9 174 rfl rfl (by kernel_rfl) (by kernel_rfl) (by kernel_rfl) (Or.inr ⟨by rfl, rfl⟩) hHeld ?_
                      simp only [Act.put, List.setIfInBounds_toArray, List.set_cons_zero, List.set_cons_succ]
                      refine take_at 10 175 rfl rfl (by kernel_rfl) (by kernel_rfl) (by kernel_rfl) (Or.inr ⟨by rfl, rfl⟩) hHeld ?_
                      simp only [Act.put, List.setIfInBounds_toArray, List.set_cons_zero, List.set_cons_succ]
                      refine take_at 11 176 rfl rfl (by kernel_rfl) (by kernel_rfl) (by kernel_rfl) (Or.inr ⟨by rfl, rfl⟩) hHeld ?_
                      simp only [Act.put, List.setIfInBounds_toArray, List.set_cons_zero, List.set_cons_succ]
                      refine take_at 12 177 rfl rfl (by kernel_rfl) (by kernel_rfl) (by kernel_rfl) (Or.inr ⟨by rfl, rfl⟩) hHeld ?_
                      simp only [Act.put, List.setIfInBounds_toArray, List.set_cons_zero, List.set_cons_succ]
                      refine take_at 13 178 rfl rfl (by kernel_rfl) (by kernel_rfl) (by kernel_rfl) (Or.inr ⟨by rfl, rfl⟩) hHeld ?_
                      simp only [Act.put, List.setIfInBounds_toArray, List.set_cons_zero, List.set_cons_succ]
                      refine take_at 14 179 rfl rfl (by kernel_rfl) (by kernel_rfl) (by kernel_rfl) (Or.inr ⟨by rfl, rfl⟩) hHeld ?_
                      simp only [Act.put, List.setIfInBounds_toArray, List.set_cons_zero, List.set_cons_succ]
                      refine take_at 15 180 rfl rfl (by kernel_rfl) (by kernel_rfl) (by kernel_rfl) (Or.inr ⟨by rfl, rfl⟩) hHeld ?_
                      simp only [Act.put, List.setIfInBounds_toArray, List.set_cons_zero, List.set_cons_succ]
                      refine take_at 16 181 (v := ?_) rfl rfl (by kernel_rfl) (by kernel_rfl) (by kernel_rfl) (Or.inl ⟨by rfl, ?_⟩) hHeld ?_
                      rotate_left
                      · intro w hSw; go_simp; with_reducible rfl
                      simp only [Act.put, List.setIfInBounds_toArray, List.set_cons_zero, List.set_cons_succ]
                      refine wpAnyH_done (by kernel_rfl) ?_ _
                      refine NoPanic.normal ?_
                      clear hHeld
                      go_wp2_with fail
                      go_roundw
                      case rel => exact ⟨k + 1, by omega, by go_num, unhide O6⟩
                      case measure => simp [intOf]; omega
                    · obtain ⟨q1, q2, q3⟩ := unhide LNS k hlk h0
                      have RK : Hid (∀ w' : World, w'.heap[g11]? = some (.cells (waV (waTo S A 49)) 88 (0, 0)) → w'.rangeAt g11 (k * 10 + 2) (lnV (A.hasZ (S.line (k : Int)))).toList) := fun w' h => wa_line hlk q3 h
                      have EQ := hide (fun (w : World) => zequal_ln 9998 (A.hasZ (S.line (k : Int))) w)
                      rw [q1, q2] at CL
                      rw [q2] at s8 XL SZ8
                      have hne : ((S.w k).k == 0) = false := by simpa using h0
                      have hne2 : ((S.w k).k != 0) = true := by simpa using h0
                      clear q1 q2 q3
                      generalize lnV (A.hasZ (S.line (k : Int))) = XV at *
                      generalize (S.w k).k = kk at *
                      generalize (S.w k).l = ly at *
                      have s8l : (Tryz.prog.info? 83).map (·.size) = some XV.toList.length := by rw [Array.length_toList]; exact s8
                      obtain ⟨c0, c2⟩ := unhide HC0 _ ((unhide HH).at g23 (.cells TV 66) (by simp))
                      go_wp2_with fail
                      refine (unhide CL).mono ?_
                      rintro e w13 ⟨rfl, h1, h2⟩
                      clear c0 c2
                      have O4 := hide (((unhide HH).call (St' := fun w G => Has W w G m A3) h1 h2).alloc (Has.stay W m A3) (.cells XV 83))
                      clear h1 h2 HH CL
                      go_upto_region 40 with (first | (with_reducible refine wpList_allocZ (by with_unfolding_all rfl) 83 (by with_unfolding_all rfl) ZLN (unhide ZL) ?_) | (with_reducible refine wpList_store_row (by with_unfolding_all rfl) 83 _ _ (by with_unfolding_all rfl) w13.heap.size XV (by with_unfolding_all rfl) (by with_unfolding_all rfl) 83 ZLN (heap_new w13 _) s8 (unhide SZ8) (unhide XL) ?_; rw [setRow_alloc]))
                      obtain ⟨g27, hg27⟩ : ∃ g, g = w13.heap.size := ⟨_, rfl⟩
                      rw [← hg27] at O4 ⊢
                      clear hg27
                      generalize w13.alloc (.cells XV 83) = w14 at *
                      have O5 := hide ((unhide O4).less (Has.stay W m A3) (L' := [(g23, .cells TV 66), (g11, .cells (waV (waTo S A 49)) 88), (g10, .cells TV 66)]) (by simp))
                      obtain ⟨c0, c2⟩ := unhide HC0 _ ((unhide O5).at g23 (.cells TV 66) (by simp))
                      have O6 := hide ((unhide O4).drew (Has.stay W m A3))
                      have SS : Hid (w14.drew.cell? ⟨g23, k * 3, none⟩ = some (.int .i64 kk) ∧ w14.drew.rangeAt g27 0 XV.toList ∧ w14.drew.rangeAt g11 (k * 10 + 2) XV.toList) := ⟨(unhide HC0 _ ((unhide O6).at g23 (.cells TV 66) (by simp))).1, fun j u hu => by rw [cell_of_block ((unhide O6).at g27 (.cells XV 83) (by simp)), Nat.zero_add, ← Array.getElem?_toList]; exact hu, unhide RK _ ((unhide O6).at g11 (.cells (waV (waTo S A 49)) 88) (by simp))⟩
                      refine wp_region_noPanic ?_
                      refine wp_region_held_drew (S := fun w' => w'.cell? ⟨g23, k * 3, none⟩ = some (.int .i64 kk) ∧ w'.rangeAt g27 0 XV.toList ∧ w'.rangeAt g11 (k * 10 + 2) XV.toList) (by kernel_rfl) (unhide SS) (fun hHeld => ?_)
                      clear c0 c2 SS O4 O5 RK
                      generalize w14.drew = w15 at *
                      refine take_at 0 165 (v := ?_) rfl rfl (by kernel_rfl) (by kernel_rfl) (by kernel_rfl) (Or.inl ⟨by rfl, ?_⟩) hHeld ?_
                      rotate_left
                      · intro w hSw; go_simp; with_reducible rfl
                      simp only [Act.put, List.setIfInBounds_toArray, List.set_cons_zero, List.set_cons_succ]
                      refine take_at 1 166 (v := .pointer (some ⟨g23, k * 3, none⟩)) rfl rfl (by kernel_rfl) (by kernel_rfl) (by kernel_rfl) (Or.inl ⟨by rfl, ?_⟩) hHeld ?_
                      · intro w hSw
                        first | (go_simp; done) | (go_simp; rfl) | (simp [execOp, Act.eval]; done)
                      simp only [Act.put, List.setIfInBounds_toArray, List.set_cons_zero, List.set_cons_succ]
                      refine take_at 2 167 (v := .pointer (some ⟨g23, k * 3, none⟩)) rfl rfl (by kernel_rfl) (by kernel_rfl) (by kernel_rfl) (Or.inl ⟨by rfl, ?_⟩) hHeld ?_
                      · intro w hSw
                        first | (go_simp; done) | (go_simp; rfl) | (simp [execOp, Act.eval]; done)
                      simp only [Act.put, List.setIfInBounds_toArray, List.set_cons_zero, List.set_cons_succ]
                      refine take_at 3 168 (v := ?_) rfl rfl (by kernel_rfl) (by kernel_rfl) (by kernel_rfl) (Or.inl ⟨by rfl, ?_⟩) hHeld ?_
                      rotate_left
                      · intro w hSw; obtain ⟨c1, c2, c3⟩ := hSw; go_simp; with_reducible rfl
                      simp only [Act.put, List.setIfInBounds_toArray, List.set_cons_zero, List.set_cons_succ]
                      refine take_at 4 169 (v := .bool true) rfl rfl (by kernel_rfl) (by kernel_rfl) (by kernel_rfl) (Or.inl ⟨by rfl, ?_⟩) hHeld ?_
                      · intro w hSw
                        first | (go_simp; done) | (go_simp; simp [hne]; done) | (go_simp; rw [hne]; rfl) | (go_simp; rw [hne2])
                      simp only [Act.put, List.setIfInBounds_toArray, List.set_cons_zero, List.set_cons_succ]
                      refine take_at 5 170 (v := ?_) rfl rfl (by kernel_rfl) (by kernel_rfl) (by kernel_rfl) (Or.inl ⟨by rfl, ?_⟩) hHeld ?_
                      rotate_left
                      · intro w hSw; go_simp; with_reducible rfl
                      simp only [Act.put, List.setIfInBounds_toArray, List.set_cons_zero, List.set_cons_succ]
                      refine take_at 6 171 (v := ?_) rfl rfl (by kernel_rfl) (by kernel_rfl) (by kernel_rfl) (Or.inl ⟨by rfl, ?_⟩) hHeld ?_
                      rotate_left
                      · intro w hSw; go_simp; with_reducible rfl
                      simp only [Act.put, List.setIfInBounds_toArray, List.set_cons_zero, List.set_cons_succ]
                      refine take_at 7 172 (v := ?_) rfl rfl (by kernel_rfl) (by kernel_rfl) (by kernel_rfl) (Or.inl ⟨by rfl, ?_⟩) hHeld ?_
                      rotate_left
                      · intro w hSw; go_simp; with_reducible rfl
                      simp only [Act.put, List.setIfInBounds_toArray, List.set_cons_zero, List.set_cons_succ]
                      refine take_at 8 173 (v := ?_) rfl rfl (by kernel_rfl) (by kernel_rfl) (by kernel_rfl) (Or.inl ⟨by rfl, ?_⟩) hHeld ?_
                      rotate_left
                      · intro w hSw; go_simp; with_reducible rfl
                      simp only [Act.put, List.setIfInBounds_toArray, List.set_cons_zero, List.set_cons_succ]
                      refine take_at 9 174 rfl rfl (by kernel_rfl) (by kernel_rfl) (by kernel_rfl) (yieldsIf_load_mid (by rfl) 83 _ rfl g27 0 rfl XV.toList _ (fun w' h => h.2.1) Tryz.underlying83 rfl s8l) hHeld ?_
                      simp only [Act.put, List.setIfInBounds_toArray, List.set_cons_zero, List.set_cons_succ]
                      refine take_at 10 175 (v := ?_) rfl rfl (by kernel_rfl) (by kernel_rfl) (by kernel_rfl) (Or.inl ⟨by rfl, ?_⟩) hHeld ?_
                      rotate_left
                      · intro w hSw; go_simp; with_reducible rfl
                      simp only [Act.put, List.setIfInBounds_toArray, List.set_cons_zero, List.set_cons_succ]
                      refine take_at 11 176 (v := .pointer (some ⟨g11, k * 10, none⟩)) rfl rfl (by kernel_rfl) (by kernel_rfl) (by kernel_rfl) (Or.inl ⟨by rfl, ?_⟩) hHeld ?_
                      · intro w hSw
                        first | (go_simp; done) | (go_simp; rfl) | (simp [execOp, Act.eval]; done)
                      simp only [Act.put, List.setIfInBounds_toArray, List.set_cons_zero, List.set_cons_succ]
                      refine take_at 12 177 (v := .pointer (some ⟨g11, k * 10 + 2, none⟩)) rfl rfl (by kernel_rfl) (by kernel_rfl) (by kernel_rfl) (Or.inl ⟨by rfl, ?_⟩) hHeld ?_
                      · intro w hSw
                        first | (go_simp; done) | (go_simp; rfl) | (simp [execOp, Act.eval]; done)
                      simp only [Act.put, List.setIfInBounds_toArray, List.set_cons_zero, List.set_cons_succ]
                      refine take_at 13 178 rfl rfl (by kernel_rfl) (by kernel_rfl) (by kernel_rfl) (yieldsIf_load_mid (by rfl) 83 _ rfl g11 (k * 10 + 2) rfl XV.toList _ (fun w' h => h.2.2) Tryz.underlying83 rfl s8l) hHeld ?_
                      simp only [Act.put, List.setIfInBounds_toArray, List.set_cons_zero, List.set_cons_succ]
                      refine take_at 14 179 rfl rfl (by kernel_rfl) (by kernel_rfl) (by kernel_rfl) (yieldsIf_neqA (by rfl) 83 _ (.tmp 174) (.tmp 178) rfl XV XV rfl rfl zln_guard true (unhide EQ)) hHeld ?_
                      simp only [Act.put, List.setIfInBounds_toArray, List.set_cons_zero, List.set_cons_succ]
                      refine take_at 15 180 (v := ?_) rfl rfl (by kernel_rfl) (by kernel_rfl) (by kernel_rfl) (Or.inl ⟨by rfl, ?_⟩) hHeld ?_
                      rotate_left
                      · intro w hSw; go_simp; with_reducible rfl
                      simp only [Act.put, List.setIfInBounds_toArray, List.set_cons_zero, List.set_cons_succ]
                      refine take_at 16 181 (v := ?_) rfl rfl (by kernel_rfl) (by kernel_rfl) (by kernel_rfl) (Or.inl ⟨by rfl, ?_⟩) hHeld ?_
                      rotate_left
                      · intro w hSw; go_simp; with_reducible rfl
                      simp only [Act.put, List.setIfInBounds_toArray, List.set_cons_zero, List.set_cons_succ]
                      refine wpAnyH_done (by kernel_rfl) ?_ _
                      refine NoPanic.normal ?_
                      clear hHeld
                      have O7 := hide ((unhide O6).less (Has.stay W m A3) (L' := [(g23, .cells TV 66), (g11, .cells (waV (waTo S A 49)) 88), (g10, .cells TV 66)]) (by simp))
                      go_wp2_with fail
                      go_roundw
                      case rel => exact ⟨k + 1, by omega, by go_num, unhide O7⟩
                      case measure => simp [intOf]; omega
                  · have hge : ¬ ((k : Int) < 49) := by omega
                    have KF := hide ((Has.stay W m A3).sz _ _ (unhide HH).st)
                    clear hlk
                    go_wp2_with fail
                    go_ret
                    exact ⟨rfl, (unhide KF).below (Nat.le_refl _) (fun _ h => h.elim)⟩
              | succ l =>
                have hlt0 : (j : Int) < (n0 : Int) := by omega
                obtain ⟨e1, e2, e3⟩ := (unhide HC).step (by decide)
                have CS := hide (wstep_any (unhide M) (unhide HH).st (unhide HC).sok (unhide HC).ok9 (unhide HC).fine)
                rw [e1, e2] at CS
                have HC1 := hide e3
                have hq : ((j : Int) == (n0 : Int) - 1) = decide (l = 0) := by
                  by_cases z : l = 0
                  · rw [decide_eq_true z]; simp; omega
                  · rw [decide_eq_false z]; simp; omega
                clear e1 e2 e3 HC
                generalize decide (l = 0) = dd at *
                have hdd : (dd != dd) = false := by simp
                generalize K'.stepS S' A' = S2 at *
                generalize K'.stepM S' A' = A2 at *
                generalize K'.stepK S' A' = K2 at *
                go_wp2_with fail
                refine (unhide CS).mono ?_
                rintro e w7 ⟨rfl, h1, h2⟩
                have O6 := hide ((unhide HH).call (St' := WHas W m b x (fun A w G => Has W w G m A) S2 A2 K2) h1 h2)
                clear h1 h2 CS HH
                by_cases hjn : j < n2
                · have hjn' : (j : Int) < (n2 : Int) := by omega
                  obtain ⟨xx, off, rfl, hx⟩ : ∃ b off, a2 = some ⟨b, off, none⟩ ∧ ∀ i, i < n2 → OOpAt W b (off + i * 4) (o2 i) := by
                    rcases unhide HO2 with h | h
                    · omega
                    · exact h
                  have hxj := hx j hjn
                  have R0 := hide (rangeAt_keeps hxj.1 ((WHas.stay (unhide M).toMemL b x S2 A2 K2).sz _ _ (unhide O6).st) id)
                  have hfit := hide hxj.2
                  have s4 : (Tryz.prog.info? 54).map (·.size) = some (o2 j).cells.length := by show _ = some 4; kernel_rfl
                  clear hx hxj
                  obtain ⟨kd, id, wd, v, hop⟩ : ∃ kd id wd v, o2 j = ⟨kd, id, wd, v⟩ := ⟨_, _, _, _, rfl⟩
                  rw [hop] at R0 hfit s4
                  clear hop
                  have R1 : Hid (w7.rangeAt xx (off + j * 4) [.int .i64 kd, .int .i64 id, .int .i64 wd, .int .u64 v]) := unhide R0
                  have s4' : (Tryz.prog.info? 54).map (·.size) = some [Value.int .i64 kd, .int .i64 id, .int .i64 wd, .int .u64 v].length := s4
                  have CC := hide ((unhide O6).st.call fun G' h' => change_any (unhide M).toMemL h' (unhide HC1).sok (unhide HC1).ok8 kd id wd v (unhide hfit))
                  have HC2 := hide ((unhide HC1).ch ⟨kd, id, wd, v⟩ (unhide hfit).2.2.2)
                  clear R0 s4 HC1
                  generalize chS S2 A2 ⟨kd, id, wd, v⟩ = S3 at *
                  generalize chM S2 A2 ⟨kd, id, wd, v⟩ = A3 at *
                  go_wp2_with (with_reducible refine wpList_load_mid (by with_unfolding_all rfl) 54 _ (by with_unfolding_all rfl) xx (off + j * 4) (by with_unfolding_all rfl) [.int .i64 kd, .int .i64 id, .int .i64 wd, .int .u64 v] _ (unhide R1) Tryz.underlying54 (by with_unfolding_all rfl) s4' ?_)
                  refine (unhide CC).mono ?_
                  rintro e w8 ⟨rfl, h1, h2⟩
                  have O7 := hide ((unhide O6).call (St' := WHas W m b x (fun A w G => Has W w G m A) S3 A3 K2) h1 h2)
                  clear h1 h2 CC R1 O6
                  go_wp2_with fail
                  go_roundw
                  case rel => exact ⟨j + 1, l, S3, A3, K2, by omega, by go_num, unhide HC2, unhide O7⟩
                  case measure => simp [intOf]; omega
                · have hjn' : ¬ ((j : Int) < (n2 : Int)) := by omega
                  go_wp2_with fail
                  go_roundw
                  case rel => exact ⟨j + 1, l, S2, A2, K2, by omega, by go_num, (unhide HC1).less, unhide O6⟩
                  case measure => simp [intOf]; omega

set_option maxRecDepth 100000 in
theorem lifted (os : Os) (started : os.Started) (H : Type) (enc : TypeId × Value → H) :
    ReturnsInHanded {} Tryz.checked os 4 .any (Rows.snapCommitsSpec.pre6 enc Tryz.prog Tryz.f4 Rows.snapCommitsRow.domain false) (Rows.snapCommitsSpec.post enc Tryz.prog Tryz.f4 false true false false) := by
  refine law_frame (C := Tryz.checked) (ts := [23, 23, 3]) (tb := 4) (by kernel_rfl) started (by kernel_rfl) Tryz.func4 Tryz.params4 (by kernel_rfl) Tryz.underlying4 (by kernel_rfl) (by kernel_rfl) rfl ?_
    (ChangeSpec.witness6 (enc := enc) (C := Tryz.checked) false ⟨#[], #[.slice none 0 0, .slice none 0 0, .int .i64 0], []⟩ 8 (by kernel_rfl) (by kernel_rfl) (by kernel_rfl) (by kernel_rfl)) ?_
  · intro ds hd
    match ds, hd with
    | [d0, d1, d2], _ => rfl
  · intro W base args ds p hval hA
    obtain ⟨v0, vs0, d0, ds0, p0, q0, hargs, rfl, rfl, h0, r0⟩ := trodAll_cons hA
    obtain ⟨v1, vs1, d1, ds1, p1, q1, rfl, rfl, rfl, h1, r1⟩ := trodAll_cons r0
    obtain ⟨v2, vs2, d2, ds2, p2, q2, rfl, rfl, rfl, h2, r2⟩ := trodAll_cons r1
    obtain ⟨rfl, rfl, rfl⟩ := trodAll_nil r2
    obtain rfl : args = #[v0, v1, v2] := by cases args; simp_all
    obtain ⟨a, n, cap, o, rfl, hO⟩ := open_zops (hval 0 23 v0 rfl rfl) h0
    obtain ⟨a2, n2, cap2, o2, rfl, hO2⟩ := open_zops (hval 1 23 v1 rfl rfl) h1
    obtain ⟨sq, rfl, rfl, rfl, wsq⟩ := open_int Tryz.underlying3 (hval 2 3 v2 rfl rfl) h2
    exact walk W a n cap o a2 n2 cap2 o2 sq hO hO2 wsq

theorem over : Rows.snapCommitsRow.holds Tryz.pinned (OpenSpec.ofChange Rows.snapCommitsSpec) :=
  OpenClaim.holds_of_wide 4 Tryz.f4 rfl rfl rfl rfl rfl rfl rfl ⟨rfl, rfl, rfl, rfl, rfl⟩ rfl rfl rfl rfl rfl (by kernel_rfl) Tryz.func4 (by kernel_rfl)
    (of_decide_eq_true (by kernel_rfl)) (by unfold Func.isWrapper; first | (rw [if_pos (by decide +kernel)]; kernel_rfl) | (rw [if_neg (by decide +kernel)]; exact ⟨rfl, rfl⟩))
    (fun os started H enc _ => lifted os started H enc)

end Go.Proofs.YtinhnnnehhlceaaGreat.snapCommits
namespace Go.Proofs.YtinhnnnehhlceaaGreat
theorem snapCommits_holds : Rows.SnapCommitsSaid := snapCommits.over
end Go.Proofs.YtinhnnnehhlceaaGreat
