
/-
  For every two rows of changes and every number, SnapPower returns true and leaves its arguments as they were: a checkpoint is committed with what stood at its begin. No condition.
-/
import Derived.Test.YtiafhcgaikapcaaGreatZPow3
import Derived.Test.YtiafhcgaikapcaaGreatZRowO
import Derived.Test.YtiafhcgaikapcaaGreatPkMem
import Derived.Test.YtiafhcgaikapcaaGreatLaw
import Derived.Test.YtiafhcgaikapcaaGreatRows
namespace Go.Proofs.YtiafhcgaikapcaaGreat.snapPower
open Go.ChangeShapes Go.WideShapes Go.ChangeAt Go.RowKit Go.Joins
set_option linter.unusedVariables false
set_option linter.unusedSimpArgs false
set_option maxRecDepth 100000

theorem open_keepZ {H : Type} {enc : TypeId × Value → H} {W : World} {r : Reach} {b0 : Nat} {v : Value} {d : DataW H} {p : List MemPlace} (hv : Value.okWide Tryz.prog W r b0 85 v)
    (h : DataW.Trod enc Tryz.prog W 0 (fun _ => true) true 85 v d p) : ∃ (a : Option Addr) (zs : List Int) (n cap : Nat), v = .slice a n cap ∧ IsRow W .i64 a zs n cap := by
  obtain ⟨a, len, cap, rfl⟩ := okWide_slice Tryz.underlying85 hv
  obtain ⟨fuel, hf⟩ := h
  exact row_of_trod Tryz.underlying85 Tryz.underlying3 (by kernel_rfl) hf
theorem zln_guard : Tryz.prog.eqGuardType Tryz.prog.depth 83 = false := by kernel_rfl
theorem zero_lnz : (Tryz.prog.info? 83).map (·.zero) = some (some (.agg (lnV fun _ => 0))) := by kernel_rfl
theorem sfuse {W w : World} {m b : Nat} {S : Sto} {A : Mm} {G : Nat → Prop} (h : SHas W m b (fun A w G => Has W w G m A) S A w G) (z : Int) :
    Calls Tryz.prog 18 #[.pointer (some ⟨m, 0, none⟩), .int .i64 z] w (Done (SHas W m b (fun A w G => Has W w G m A) S (A.fused z)) w G (.tuple #[])) :=
  (h.st.fuse z).mono fun e w' hd => h.ofMem hd
theorem it0_len (j : Nat) (hj : j ≤ 3) : (it0 j).2.2.l.length = 3 - j := by
  rcases it0_at j hj with ⟨_, h, _⟩ | ⟨h, h2⟩
  · exact h
  · rw [h.l, h2]; rfl

set_option maxHeartbeats 32000000 in
theorem walk (W : World) (a : Option Addr) (n cap : Nat) (o : Nat → OOp) (at' : Int) (ak : Option Addr) (keep : List Int) (nk capk : Nat) (hO : OOpsAt W a n cap o) (wat : (Lit.int .i64 at').wf = true) (hK : IsRow W .i64 ak keep nk capk) :
    Calls Tryz.prog 4 #[.slice a n cap, .int .i64 at', .slice ak nk capk] W fun e W' => e = .returned (.bool true) ∧ Below W.heap.size W W' := by
  have CK := hide (zkind_any at' (in64_wf wat) 200 (by decide) (by decide))
  have hk200 := kindN_lt at' 200 (by decide)
  obtain ⟨kq, hkq⟩ : ∃ kq, kq = kindN at' 200 := ⟨_, rfl⟩
  rw [← hkq] at CK hk200
  clear hkq wat
  have hnk : nk = keep.length := by have := hK.1; omega
  subst hnk
  have HKP := hide hK.keep
  clear hK
  obtain ⟨hn, hops⟩ := hO
  have HO := hide hops
  clear hops
  go_enter Tryz.func4, Tryz.ntmps4
  go_wp2_with fail
  refine (zshown_any W).mono ?_
  rintro e w0 ⟨rfl, hk0⟩
  have CM := hide (zmade_any W w0 hk0 (fun _ => False) (fun _ h => h.elim) 400 12 (by decide) (by decide) (by decide))
  clear hk0
  go_wp2_with fail
  refine (unhide CM).mono ?_
  rintro e w1 ⟨m, b, x, rfl, hw, -⟩
  have HW0 := hide hw
  have M := hide (Has.memX W m)
  clear hw CM
  have CB0 := hide (wbegin_any (unhide M) (unhide HW0) 0)
  rw [it0_begin.1] at CB0
  go_wp2_with fail
  refine (unhide CB0).mono ?_
  rintro e wb ⟨rfl, h1, -⟩
  have HI0 : Hid (WHas W m b x (fun A w G => Has W w G m A) (it0 0).1 (it0 0).2.1 (it0 0).2.2 wb (fun _ => False)) := h1
  clear h1 CB0 HW0
  go_wp2_with fail
  go_loopw [11] (fun q wq => ∃ j : Nat, j ≤ 3 ∧ q = .int .i64 j ∧ WHas W m b x (fun A w G => Has W w G m A) (it0 j).1 (it0 j).2.1 (it0 j).2.2 wq (fun _ => False)) (fun q _ => 4 - (intOf q).toNat)
  case atStart => exact ⟨0, by omega, rfl, unhide HI0⟩
  case round =>
    clear HI0
    obtain ⟨j, hj, rfl, hw⟩ := hrel
    have HW := hide hw
    clear hw
    have hj60 : (j : Int) < 60 := by omega
    have CL := hide ((unhide HW).left)
    rw [it0_len j hj] at CL
    by_cases hlt : j < 3
    · have hpos : ((3 - j : Nat) : Int) > 0 := by omega
      have hat := it0_at j hj
      have CS := hide (wstep_any (unhide M) (unhide HW) hat.sok hat.ok9 hat.fine)
      clear hat
      go_wp2_with fail
      refine (unhide CL).mono ?_
      rintro e wq ⟨rfl, rfl⟩
      clear CL
      go_wp2_with fail
      refine (unhide CS).mono ?_
      rintro e w5 ⟨rfl, h1, -⟩
      have HW2 : Hid (WHas W m b x (fun A w G => Has W w G m A) (it0 (j + 1)).1 (it0 (j + 1)).2.1 (it0 (j + 1)).2.2 w5 (fun _ => False)) := h1
      clear h1 CS HW
      go_wp2_with fail
      go_roundw
      case rel => exact ⟨j + 1, by omega, by go_num, unhide HW2⟩
      case measure => simp [intOf]; omega
    · have e3 : j = 3 := by omega
      subst e3
      have hneg : ¬ (((3 - 3 : Nat) : Int) > 0) := by decide
      go_wp2_with fail
      refine (unhide CL).mono ?_
      rintro e wq ⟨rfl, rfl⟩
      clear CL
      go_upto_region 10 with fail
      have HS := hide Chp.start
      have hKl := hide l_it0
      have hKs := hide sl_it0
      have hKb := hide b_it0
      have hw0 := it0_w 3 (Nat.le_refl _)
      have CT0 := hide (table_obj (unhide HW).rep)
      rw [hw0] at CT0
      clear hw0 hj hj60 hlt hneg
      generalize (it0 3).1 = S0 at *
      generalize (it0 3).2.1 = A0 at *
      generalize (it0 3).2.2 = K0 at *
      have T0 := hide (WHas.stay (unhide M).toMemL b x S0 A0 K0)
      have stb := s147_tab wS
      have Zt := hide zero_tab
      have Xt := hide (tabV_one wS)
      have SZt : Hid ((tabV fun _ => ze).size = (tabV wS).size) := by show _ = _; rw [tabV_size, tabV_size]
      have EQB := hide (fun (w : World) => zequal_tab wS w)
      generalize hTB : tabV wS = TB at *
      have HTB := hide hTB
      clear hTB
      generalize hZT : (tabV fun _ => ze) = ZT at *
      have HZT := hide hZT
      clear hZT
      go_wp2_with fail
      refine (unhide CT0).mono ?_
      rintro e w2 ⟨rfl, hb⟩
      have O1 := hide (((Held.start (unhide T0) (unhide HW)).below (unhide T0) hb).alloc (unhide T0) (.cells TB 66))
      clear hb CT0 HW
      go_upto_region 11 with (first | (with_reducible refine wpList_allocZ (by with_unfolding_all rfl) 66 (by with_unfolding_all rfl) ZT (unhide Zt) ?_) | (with_reducible refine wpList_store_row (by with_unfolding_all rfl) 66 _ _ (by with_unfolding_all rfl) w2.heap.size TB (by with_unfolding_all rfl) (by with_unfolding_all rfl) 66 ZT (heap_new w2 _) stb (unhide SZt) (unhide Xt) ?_; rw [setRow_alloc]))
      obtain ⟨g12, hg12⟩ : ∃ g, g = w2.heap.size := ⟨_, rfl⟩
      rw [← hg12] at O1 ⊢
      clear hg12
      generalize w2.alloc (.cells TB 66) = w3 at *
      have O2 : Hid (Held W (WHas W m b x (fun A w G => Has W w G m A) S0 A0 K0) w3 w3 (fun _ => False) [(g12, .cells TB 66)]) := ⟨(unhide O1).1, (unhide O1).2.1, fun _ h => h.elim⟩
      clear O1 Xt SZt T0
      go_wp2_with fail
      go_loopw [13] (fun q wq => ∃ (i : Nat) (S : Sto) (A : Mm), i ≤ n ∧ i ≤ 20 ∧ q = .int .i64 i ∧ Chp K0.d S A i ∧ Held W (WHas W m b x (fun A w G => Has W w G m A) S A K0) w3 wq (fun _ => False) [(g12, .cells TB 66)]) (fun q _ => n - (intOf q).toNat)
      case atStart => exact ⟨0, S0, A0, by omega, by omega, rfl, unhide HS, unhide O2⟩
      case round =>
        clear O2 HS
        obtain ⟨i, S, A, hi, hi20, rfl, hd, hh⟩ := hrel
        have HH := hide hh
        have HD := hide hd
        clear hh hd
        by_cases hlt : i < n ∧ i < 20
        · skip
          obtain ⟨xx, off, rfl, hx⟩ : ∃ b off, a = some ⟨b, off, none⟩ ∧ ∀ i, i < n → OOpAt W b (off + i * 4) (o i) := by
            rcases unhide HO with h | h
            · omega
            · exact h
          have hxj := hx i hlt.1
          have R0 := hide (rangeAt_keeps hxj.1 ((WHas.stay (unhide M).toMemL b x S A K0).sz _ _ (unhide HH).st) id)
          have hfit := hide hxj.2
          have hin : (i : Int) < (n : Int) := by omega
          have hi20 : (i : Int) < 20 := by omega
          have s4 : (Tryz.prog.info? 54).map (·.size) = some (o i).cells.length := by show _ = some 4; kernel_rfl
          clear hx hxj
          obtain ⟨kd, id, wd, v, hop⟩ : ∃ kd id wd v, o i = ⟨kd, id, wd, v⟩ := ⟨_, _, _, _, rfl⟩
          rw [hop] at R0 hfit s4
          clear hop
          have R1 : Hid (wr.rangeAt xx (off + i * 4) [.int .i64 kd, .int .i64 id, .int .i64 wd, .int .u64 v]) := unhide R0
          have s4' : (Tryz.prog.info? 54).map (·.size) = some [Value.int .i64 kd, .int .i64 id, .int .i64 wd, .int .u64 v].length := s4
          have ok8 : Hid (A.ok 800) := by obtain ⟨B, b1, b2⟩ := (unhide HD).ok; exact ok_mono b1 (by omega)
          have CC := hide ((unhide HH).st.call fun G' h' => change_any (unhide M).toMemL h' (unhide HD).good.ok (unhide ok8) kd id wd v (unhide hfit))
          have HD2 := hide ((unhide HD).ch ⟨kd, id, wd, v⟩ (unhide hfit).2.2.2)
          clear R0 s4 HD ok8
          generalize chS S A ⟨kd, id, wd, v⟩ = S2 at *
          generalize chM S A ⟨kd, id, wd, v⟩ = A2 at *
          go_wp2_with (with_reducible refine wpList_load_mid (by with_unfolding_all rfl) 54 _ (by with_unfolding_all rfl) xx (off + i * 4) (by with_unfolding_all rfl) [.int .i64 kd, .int .i64 id, .int .i64 wd, .int .u64 v] _ (unhide R1) Tryz.underlying54 (by with_unfolding_all rfl) s4' ?_)
          refine (unhide CC).mono ?_
          rintro e w5 ⟨rfl, h1, h2⟩
          have O3 := hide ((unhide HH).call (St' := WHas W m b x (fun A w G => Has W w G m A) S2 A2 K0) h1 h2)
          clear h1 h2 CC R1 HH
          go_wp2_with fail
          go_roundw
          case rel => exact ⟨i + 1, S2, A2, by omega, by omega, by go_num, unhide HD2, unhide O3⟩
          case measure => simp [intOf]; omega
        · have hor : ¬ ((i : Int) < (n : Int)) ∨ ((i : Int) < (n : Int) ∧ ¬ ((i : Int) < 20)) := by omega
          clear hlt HO
          rcases hor with h1 | ⟨h1, h2⟩
          · go_upto_region 15 with fail
            clear h1
            as_aux_lemma =>
              generalize (i : Int) = lasti at *
              have T1 := hide (WHas.stay (unhide M).toMemL b x S A K0)
              have CT := hide (table_obj (unhide HH).st.rep)
              have st := s147_tab S.w
              have Xt := hide (tabV_one S.w)
              have SZt : Hid (ZT.size = (tabV S.w).size) := by show _ = _; rw [← unhide HZT, tabV_size, tabV_size]
              have EQT := hide (fun (w : World) => zequal_tab S.w w)
              generalize hTV : tabV S.w = TV at *
              have HTV := hide hTV
              clear hTV
              go_wp2_with fail
              refine (unhide CT).mono ?_
              rintro e wt2 ⟨rfl, hb⟩
              have O1 := hide (((unhide HH).below (unhide T1) hb).alloc (unhide T1) (.cells TV 66))
              clear hb CT HH
              go_upto_region 16 with (first | (with_reducible refine wpList_allocZ (by with_unfolding_all rfl) 66 (by with_unfolding_all rfl) ZT (unhide Zt) ?_) | (with_reducible refine wpList_store_row (by with_unfolding_all rfl) 66 _ _ (by with_unfolding_all rfl) wt2.heap.size TV (by with_unfolding_all rfl) (by with_unfolding_all rfl) 66 ZT (heap_new wt2 _) st (unhide SZt) (unhide Xt) ?_; rw [setRow_alloc]))
              obtain ⟨g14, hg14⟩ : ∃ g, g = wt2.heap.size := ⟨_, rfl⟩
              rw [← hg14] at O1 ⊢
              clear hg14
              generalize wt2.alloc (.cells TV 66) = wt3 at *
              have O2 := hide ((unhide O1).alloc (unhide T1) (.cells (waV (waTo S A 0)) 89))
              have h10 : g14 < wt3.heap.size := (unhide O1).lt (g14, _) List.mem_cons_self
              have h12 : g12 < wt3.heap.size := (unhide O1).lt (g12, _) (List.mem_cons_of_mem _ List.mem_cons_self)
              have Zw := hide (zero_wa S A)
              have Bw := hide (built_wa S A)
              have sw := s490 (waTo S A 0)
              have Xw := hide (waV0_one S A)
              generalize hWV : waV (waTo S A 0) = WV at *
              clear O1 Zt SZt Xt
              go_upto_region 18 with (first | (with_reducible refine wpList_build0 (by with_unfolding_all rfl) 89 (by with_unfolding_all rfl) WV (unhide Bw) ?_) | (with_reducible refine wpList_allocZ (by with_unfolding_all rfl) 89 (by with_unfolding_all rfl) WV (unhide Zw) ?_) | (with_reducible refine wpList_store_row (by with_unfolding_all rfl) 89 _ _ (by with_unfolding_all rfl) wt3.heap.size WV (by with_unfolding_all rfl) (by with_unfolding_all rfl) 89 WV (heap_new wt3 _) sw rfl (unhide Xw) ?_; rw [setRow_alloc]))
              obtain ⟨g15, hg15⟩ : ∃ g, g = wt3.heap.size := ⟨_, rfl⟩
              rw [← hg15] at O2 h10 h12 ⊢
              clear hg15
              generalize wt3.alloc (.cells WV 89) = w4 at *
              rw [← hWV] at O2
              clear Zw Bw sw Xw hWV
              have hAn : A.n ≤ 1024 := by rw [(unhide HD).n]; decide
              have CG := hide (fun (w' : World) G' (h' : WHas W m b x (fun A w G => Has W w G m A) S A K0 w' G') (z : Int) => h'.call fun G'' h'' => get_any (unhide M).toMemL h'' hAn z)
              go_wp2_with fail
              go_loopw [16] (fun q wq => ∃ k : Nat, k ≤ 49 ∧ q = .int .i64 k ∧ Held W (WHas W m b x (fun A w G => Has W w G m A) S A K0) w3 wq (fun _ => False) [(g15, .cells (waV (waTo S A k)) 89), (g14, .cells TV 66), (g12, .cells TB 66)]) (fun q _ => 49 - (intOf q).toNat)
              case atStart => exact ⟨0, by omega, rfl, unhide O2⟩
              case round =>
                clear O2
                obtain ⟨k, hk, rfl, hh⟩ := hrel
                have HH := hide hh
                clear hh
                by_cases hlk : k < 49
                · have hk49 : (k : Int) < 49 := by omega
                  have CGk := hide (unhide CG _ _ (unhide HH).st (k : Int))
                  have HG : Hid (getT S A (k : Int) = .tuple #[.agg (S.getV A (k : Int)), .int .i64 (S.getE A (k : Int))]) := rfl
                  rw [unhide HG] at CGk
                  have hsz := getV_size S A (k : Int)
                  have s10 : (Tryz.prog.info? 88).map (·.size) = some (S.getV A (k : Int)).size := by rw [hsz]; kernel_rfl
                  have X10 := hide (getV_one S A (k : Int))
                  have NX := hide (waTo_next S A k)
                  generalize S.getE A (k : Int) = er at *
                  have KP := hide (fun (w' : World) (h : w'.heap[g15]? = some (.cells (waV (waTo S A k)) 89 (0, 0))) => wa_put (S.getV A (k : Int)) hsz hlk h)
                  rw [unhide NX] at KP
                  clear HG NX
                  generalize S.getV A (k : Int) = OV at *
                  go_wp2_with fail
                  refine (unhide CGk).mono ?_
                  rintro e w5 ⟨rfl, h1, h2⟩
                  have O3 := hide ((unhide HH).call (St' := WHas W m b x (fun A w G => Has W w G m A) S A K0) h1 h2)
                  clear h1 h2 HH CGk
                  have bk := (unhide O3).at g15 (.cells (waV (waTo S A k)) 89) (by simp)
                  have THB : Hid (w5.there g15 (k * 10) OV.size) := by rw [hsz]; exact wa_there hlk bk
                  have O4 := hide (((unhide O3).turnOwn (unhide T1) g15 (.cells (waV (waTo S A k)) 89) _ (by simp) (keeps_sets OV.toList (k * 10) _ _ (Keeps.refl _ _)) (unhide KP _ bk)).less (unhide T1) (L' := [(g15, .cells (waV (waTo S A (k + 1))) 89), (g14, .cells TV 66), (g12, .cells TB 66)]) (fun p hp => by
                    rcases List.mem_cons.1 hp with rfl | hp
                    · exact List.mem_cons_self
                    · rcases List.mem_cons.1 hp with rfl | hp
                      · exact List.mem_cons_of_mem _ (List.mem_filter.2 ⟨by simp, by simp; omega⟩)
                      · rcases List.mem_cons.1 hp with rfl | hp
                        · exact List.mem_cons_of_mem _ (List.mem_filter.2 ⟨by simp, by simp; omega⟩)
                        · cases hp))
                  clear bk KP O3
                  go_wp2_with (with_reducible refine wpList_store_mid (by with_unfolding_all rfl) 88 _ _ (by with_unfolding_all rfl) g15 (k * 10) OV (by with_unfolding_all rfl) (by with_unfolding_all rfl) (unhide THB) s10 (unhide X10) ?_)
                  go_roundw
                  case rel => exact ⟨k + 1, by omega, by go_num, unhide O4⟩
                  case measure => simp [intOf]; omega
                · have hge : ¬ ((k : Int) < 49) := by omega
                  have ek : k = 49 := by omega
                  rw [ek] at HH
                  clear hlk ek
                  go_upto_region 21 with fail
                  clear hge
                  generalize (k : Int) = lastk at *
                  clear CG
                  have hfu : In64 (kq : Int) := ⟨by omega, by omega⟩
                  obtain ⟨s1, s2, s3⟩ := Pq.start (unhide HD) hi20 (kq : Int) hfu (unhide hKl) (unhide hKs) (unhide hKb)
                  have HQ0 := hide s3
                  have CFu := hide ((unhide HH).st.call fun G' h' => sfuse h' (kq : Int))
                  have CB := hide (fun (w' : World) G' (h' : WHas W m b x (fun A w G => Has W w G m A) S (A.fused (kq : Int)) K0 w' G') => wbegin_any (unhide M) h' 5)
                  rw [s1] at CB
                  generalize hn0 : (K0.beginK S 5).l.length = n0 at s2 s3 HQ0
                  have hn59 : n0 ≤ 59 := s2
                  clear s1 s2 s3 hn0 hfu
                  generalize K0.beginS S 5 = S1 at *
                  generalize K0.beginK S 5 = K1 at *
                  generalize A.fused (kq : Int) = A1 at *
                  go_wp2_with fail
                  refine (unhide CK _).mono ?_
                  rintro e w6 ⟨rfl, rfl⟩
                  go_wp2_with fail
                  refine (unhide CFu).mono ?_
                  rintro e w7 ⟨rfl, h1, h2⟩
                  have O5 := hide ((unhide HH).call (St' := WHas W m b x (fun A w G => Has W w G m A) S A1 K0) h1 h2)
                  clear h1 h2 HH CFu CK
                  go_wp2_with fail
                  refine (unhide CB _ _ (unhide O5).st).mono ?_
                  rintro e w8 ⟨rfl, h1, h2⟩
                  have O6 := hide ((unhide O5).call (St' := WHas W m b x (fun A w G => Has W w G m A) S1 A1 K1) h1 h2)
                  clear h1 h2 O5 CB
                  go_wp2_with fail
                  go_loopw [17, 18] (fun dq q wq => ∃ (j l : Nat) (D : Bool) (S' : Sto) (A' : Mm) (K' : Wk), j ≤ n0 ∧ (A'.on = true → j + l = n0) ∧ dq = .bool D ∧ q = .int .i64 j ∧ Pq 400 S.w wS K0.d (fun i => (A.l (S.w i).l.toNat).has) 5 S' A' K' l D ∧ Held W (WHas W m b x (fun A w G => Has W w G m A) S' A' K') w3 wq (fun _ => False) [(g15, .cells (waV (waTo S A 49)) 89), (g14, .cells TV 66), (g12, .cells TB 66)]) (fun _ q _ => 60 - (intOf q).toNat)
                  case atStart => exact ⟨0, n0, false, S1, A1, K1, by omega, fun _ => by omega, rfl, rfl, unhide HQ0, unhide O6⟩
                  case round =>
                    clear O6 HQ0
                    obtain ⟨j, l, D, S', A', K', hj, hjl, rfl, rfl, hq, hh⟩ := hrel
                    have HH := hide hh
                    have HQ := hide hq
                    clear hh hq
                    have hj60 : (j : Int) < 60 := by omega
                    have CL := hide ((unhide HH).st.left)
                    rw [(unhide HQ).len] at CL
                    have CO := hide ((unhide HH).drop.st.isOn)
                    cases l with
                    | zero =>
                      have hneg : ¬ (((0 : Nat) : Int) > 0) := by decide
                      have HT := hide ((unhide HQ).told (Or.inl rfl) keep)
                      go_wp2_with fail
                      refine (unhide CL).mono ?_
                      rintro e wq ⟨rfl, rfl⟩
                      clear CL CO
                      go_upto_region 28 with fail
                      have OM0 := hide (unhide HH).drop
                      obtain ⟨BT, hok8, hn4'⟩ := unhide HT
                      have hn4 : (A'.crash keep).n = 400 := hn4'
                      have OK1 : Hid (A'.ok 1000) := ok_mono hok8 (by omega)
                      have CC := hide (fun (w' : World) G' (h' : Has W w' G' m A') => h'.crash_arg (unhide OK1) ak keep capk (unhide HKP).2.1 (unhide HKP).2.2 (by
                        rcases (unhide HKP).1 with e | ⟨y, off, e, hy⟩
                        · exact Or.inl e
                        · exact Or.inr ⟨y, off, e, hy⟩))
                      have CF := hide (fun (w' : World) G' (h' : Has W w' G' m (A'.crash keep)) => h'.find (ok_crash (unhide OK1) keep))
                      rw [BT.e] at CF
                      have Z4 : Hid ((Tryz.prog.info? 49).map (·.zero) = some (some (.agg #[.int .i64 0, .int .i64 0, .int .i64 0, .int .i64 0]))) := by show _ = _; kernel_rfl
                      have ZT2 : Hid ((Tryz.prog.info? 66).map (·.zero) = some (some (.agg ZT))) := by show _ = _; rw [← unhide HZT]; exact zero_tab
                      have Z7 : Hid ((Tryz.prog.info? 95).map (·.zero) = some (some (.agg (iv .i64 zs7)))) := hide zero_7z
                      rcases BT.v with ⟨v1, v2, v3, v4⟩ | ⟨d, v1, v2, v4, v5⟩
                      · subst v3
                        rw [v1, v2] at CF
                        have s4 := s4_sup [2, K0.d 7, 0, 1] rfl
                        have X4 := hide (iv_one .i64 [2, K0.d 7, 0, 1])
                        have SZ : Hid ((#[.int .i64 0, .int .i64 0, .int .i64 0, .int .i64 0] : Array Value).size = (iv .i64 [2, K0.d 7, 0, 1]).size) := rfl
                        have K20 : Hid (∀ (w' : World) (g : Nat), w'.heap[g]? = some (.cells (iv .i64 [2, K0.d 7, 0, 1]) 49 (0, 0)) → w'.cell? ⟨g, 0, none⟩ = some (.int .i64 2) ∧ w'.cell? ⟨g, 1, none⟩ = some (.int .i64 (K0.d 7)) ∧ w'.cell? ⟨g, 2, none⟩ = some (.int .i64 0)) := fun w' g h => by
                          refine ⟨?_, ?_, ?_⟩ <;> rw [cell_of_block h] <;> rfl
                        obtain ⟨LD1, LD2⟩ := v4.load (by decide) hn4 rfl
                        have hd7 : (Lit.int .i64 (K0.d 7)).wf = true := by
                          have h := v4.db 7 (by decide)
                          exact wf_i64 (by omega) (by omega)
                        have CX : Hid (∀ (w' : World) (G' : Nat → Prop), Has W w' G' m (A'.crash keep) → Calls Tryz.prog 46 #[.pointer (some ⟨m, 0, none⟩), .int .i64 10, .int .i64 (K0.d 7)] w' fun e w'' => e = .returned (.tuple #[.agg TB, .agg (iv .i64 (ldL (A'.crash keep) 10 (K0.d 7))), .int .i64 0]) ∧ Keeps (fun _ => False) w' w'') := fun w' G' h' => by
                          obtain ⟨F, c, cs, q1, q2, q3, q4⟩ := h'
                          have q := xload_any q1 (by rw [hn4]; decide) (ok_crash (unhide OK1) keep).2.2.1 10 (K0.d 7) hd7
                          rw [LD1, LD2] at q
                          unfold LdPost at q
                          rw [show iv .i64 (rowE 49 wS) = TB from unhide HTB] at q
                          exact q
                        have lL := ldL_len (A'.crash keep) 10 (K0.d 7)
                        have AN3 : Hid ((A'.crash keep).n ≤ 1024) := by show _ ≤ _; rw [hn4]; decide
                        have XtT := hide (tabV_one wS)
                        rw [unhide HTB] at XtT
                        have SZtT : Hid (ZT.size = TB.size) := by show _ = _; rw [← unhide HZT, ← unhide HTB, tabV_size, tabV_size]
                        clear LD1 LD2 hd7 OK1 v1 v2 v4 BT HT HQ
                        generalize ldL (A'.crash keep) 10 (K0.d 7) = LL at *
                        generalize A'.crash keep = A3 at *
                        generalize iv .i64 [2, K0.d 7, 0, 1] = SV at *
                        generalize K0.d 7 = r7 at *
                        go_wp2_with fail
                        refine (unhide CC _ _ (unhide OM0).st).mono ?_
                        rintro e w20 ⟨rfl, h1, h2⟩
                        have OM1 := hide ((unhide OM0).call (St' := fun w G => Has W w G m A3) h1 h2)
                        clear h1 h2 OM0 CC HH
                        go_wp2_with fail
                        refine (unhide CF _ _ (unhide OM1).st).mono ?_
                        rintro e w21 ⟨rfl, h1, h2⟩
                        have OM2 := hide (((unhide OM1).call (St' := fun w G => Has W w G m A3) h1 h2).alloc (Has.stay W m A3) (.cells SV 49))
                        clear h1 h2 OM1 CF
                        go_upto_region 30 with (first | (with_reducible refine wpList_allocZ (by with_unfolding_all rfl) 49 (by with_unfolding_all rfl) #[.int .i64 0, .int .i64 0, .int .i64 0, .int .i64 0] (unhide Z4) ?_) | (with_reducible refine wpList_store_row (by with_unfolding_all rfl) 49 _ _ (by with_unfolding_all rfl) w21.heap.size SV (by with_unfolding_all rfl) (by with_unfolding_all rfl) 49 #[.int .i64 0, .int .i64 0, .int .i64 0, .int .i64 0] (heap_new w21 _) s4 (unhide SZ) (unhide X4) ?_; rw [setRow_alloc]))
                        obtain ⟨g19, hg19⟩ : ∃ g, g = w21.heap.size := ⟨_, rfl⟩
                        rw [← hg19] at OM2 ⊢
                        clear hg19
                        generalize w21.alloc (.cells SV 49) = w22 at *
                        obtain ⟨c0, c1, c2⟩ := unhide K20 w22 g19 ((unhide OM2).at g19 (.cells SV 49) (by simp))
                        clear s4 X4 SZ Z4 c0 c2
                        go_wp2_with fail
                        refine (unhide CX _ _ (unhide OM2).st).mono ?_
                        rintro e w23 ⟨rfl, hk⟩
                        clear c1
                        have OM3 := hide ((unhide OM2).keeps (Has.stay W m A3) hk)
                        clear hk CX OM2
                        have XL := hide (iv_one .i64 LL)
                        have SZL : Hid ((iv .i64 zs7).size = (iv .i64 LL).size) := by show _ = _; rw [iv_size, iv_size, lL]; rfl
                        have s7 : (Tryz.prog.info? 95).map (·.size) = some (iv .i64 LL).size := by rw [iv_size, lL]; kernel_rfl
                        generalize iv .i64 zs7 = ZLV at *
                        generalize iv .i64 LL = LV at *
                        obtain ⟨p1, p2, p3, p4⟩ := (unhide OM3).pair (Has.stay W m A3) ZT TB 66 ZLV LV 95
                        have O7 := hide p1
                        have H8 := hide p2
                        have H9 := hide p3
                        have H9' : Hid ((((w23.alloc (.cells ZT 66)).alloc (.cells ZLV 95)).setRow w23.heap.size TB).heap[(w23.alloc (.cells ZT 66)).heap.size]? = some (.cells ZLV 95 (0, 0))) := by show _ = _; rw [p4]; exact p3
                        have E9 := hide p4
                        clear OM3 p1 p2 p3 p4 lL
                        go_upto_region 31 with (first | (with_reducible refine wpList_allocZ (by with_unfolding_all rfl) 66 (by with_unfolding_all rfl) ZT (unhide ZT2) ?_) | (with_reducible refine wpList_allocZ (by with_unfolding_all rfl) 95 (by with_unfolding_all rfl) ZLV (unhide Z7) ?_) | (with_reducible refine wpList_store_row (by with_unfolding_all rfl) 66 _ _ (by with_unfolding_all rfl) w23.heap.size TB (by with_unfolding_all rfl) (by with_unfolding_all rfl) 66 ZT (unhide H8) stb (unhide SZtT) (unhide XtT) ?_) | (with_reducible refine wpList_store_row (by with_unfolding_all rfl) 95 _ _ (by with_unfolding_all rfl) (w23.heap.size + 1) LV (by with_unfolding_all rfl) (by with_unfolding_all rfl) 95 ZLV (unhide H9) s7 (unhide SZL) (unhide XL) ?_) | (with_reducible refine wpList_store_row (by with_unfolding_all rfl) 95 _ _ (by with_unfolding_all rfl) (w23.alloc (.cells ZT 66)).heap.size LV (by with_unfolding_all rfl) (by with_unfolding_all rfl) 95 ZLV (unhide H9') s7 (unhide SZL) (unhide XL) ?_))
                        try rw [unhide E9]
                        clear H8 H9 H9' E9 ZT2 Z7 XtT XL SZtT SZL s7
                        obtain ⟨g22, hg22⟩ : ∃ g, g = w23.heap.size := ⟨_, rfl⟩
                        rw [← hg22] at O7 ⊢
                        clear hg22
                        generalize (((w23.alloc (.cells ZT 66)).alloc (.cells ZLV 95)).setRow g22 TB).setRow (g22 + 1) LV = w24 at *
                        have OM4 := hide ((unhide O7).less (Has.stay W m A3) (L' := [(g22, .cells TB 66), (g19, .cells SV 49), (g15, .cells (waV (waTo S A 49)) 89), (g14, .cells TV 66), (g12, .cells TB 66)]) (by simp))
                        clear O7
                        obtain ⟨c0, c1, c2⟩ := unhide K20 w24 g19 ((unhide OM4).at g19 (.cells SV 49) (by simp))
                        have G22 := hide ((unhide OM4).at g22 (.cells TB 66) (by simp))
                        have G14 := hide ((unhide OM4).at g14 (.cells TV 66) (by simp))
                        have G12 := hide ((unhide OM4).at g12 (.cells TB 66) (by simp))
                        have KF := hide ((Has.stay W m A3).sz _ _ (unhide OM4).st)
                        go_wp2_with (first | (with_reducible refine wpList_load_row_g (by with_unfolding_all rfl) 66 (.tmp 22) (by with_unfolding_all rfl) g22 (by with_unfolding_all rfl) _ _ _ _ (unhide G22) Tryz.underlying66 (by with_unfolding_all rfl) stb ?_) | (with_reducible refine wpList_load_row_g (by with_unfolding_all rfl) 66 (.tmp 12) (by with_unfolding_all rfl) g12 (by with_unfolding_all rfl) _ _ _ _ (unhide G12) Tryz.underlying66 (by with_unfolding_all rfl) stb ?_) | (with_reducible refine wpList_eqlA (by with_unfolding_all rfl) 66 _ (.tmp 139) (.tmp 140) (by with_unfolding_all rfl) TB TB (by with_unfolding_all rfl) (by with_unfolding_all rfl) ztab_guard true (unhide EQB) ?_))
                        go_ret
                        exact ⟨rfl, (unhide KF).below (Nat.le_refl _) (fun _ h => h.elim)⟩
                      · skip
                        rw [v1, v2] at CF
                        have s4 := s4_sup [3, d 7, 5, 1] rfl
                        have X4 := hide (iv_one .i64 [3, d 7, 5, 1])
                        have SZ : Hid ((#[.int .i64 0, .int .i64 0, .int .i64 0, .int .i64 0] : Array Value).size = (iv .i64 [3, d 7, 5, 1]).size) := rfl
                        have K20 : Hid (∀ (w' : World) (g : Nat), w'.heap[g]? = some (.cells (iv .i64 [3, d 7, 5, 1]) 49 (0, 0)) → w'.cell? ⟨g, 0, none⟩ = some (.int .i64 3) ∧ w'.cell? ⟨g, 1, none⟩ = some (.int .i64 (d 7)) ∧ w'.cell? ⟨g, 2, none⟩ = some (.int .i64 5)) := fun w' g h => by
                          refine ⟨?_, ?_, ?_⟩ <;> rw [cell_of_block h] <;> rfl
                        obtain ⟨LD1, LD2⟩ := v4.load (by decide) hn4 rfl
                        have hd7 : (Lit.int .i64 (d 7)).wf = true := by
                          have h := v4.db 7 (by decide)
                          exact wf_i64 (by omega) (by omega)
                        have CX : Hid (∀ (w' : World) (G' : Nat → Prop), Has W w' G' m (A'.crash keep) → Calls Tryz.prog 46 #[.pointer (some ⟨m, 0, none⟩), .int .i64 10, .int .i64 (d 7)] w' fun e w'' => e = .returned (.tuple #[.agg TV, .agg (iv .i64 (ldL (A'.crash keep) 10 (d 7))), .int .i64 0]) ∧ Keeps (fun _ => False) w' w'') := fun w' G' h' => by
                          obtain ⟨F, c, cs, q1, q2, q3, q4⟩ := h'
                          have q := xload_any q1 (by rw [hn4]; decide) (ok_crash (unhide OK1) keep).2.2.1 10 (d 7) hd7
                          rw [LD1, LD2] at q
                          unfold LdPost at q
                          rw [show iv .i64 (rowE 49 S.w) = TV from unhide HTV] at q
                          exact q
                        have lL := ldL_len (A'.crash keep) 10 (d 7)
                        have AN3 : Hid ((A'.crash keep).n ≤ 1024) := by show _ ≤ _; rw [hn4]; decide
                        have XtT := hide (tabV_one S.w)
                        rw [unhide HTV] at XtT
                        have SZtT : Hid (ZT.size = TV.size) := by show _ = _; rw [← unhide HZT, ← unhide HTV, tabV_size, tabV_size]
                        have LNS : Hid (∀ k : Nat, k < 49 → (S.w k).k ≠ 0 → lnV ((A'.crash keep).hasZ (S.w k).l) = lnV (A.hasZ (S.line (k : Int))) ∧ S.getE A (k : Int) = 0) := fun k hk h0 => by
                          obtain ⟨g1, g2⟩ := get_there (unhide HD).good (unhide HD).calm (unhide HD).n hk h0
                          refine ⟨?_, g1⟩
                          rw [g2]
                          refine lnV_same fun j hj => ?_
                          have hz : (A'.crash keep).isZ (S.w k).l := by
                            have := v4.te k hk h0
                            show 0 ≤ (S.w k).l ∧ (S.w k).l < (A'.crash keep).n
                            rw [hn4]
                            omega
                          unfold Mm.hasZ
                          rw [if_pos ⟨hz, rfl⟩]
                          exact (v5 k hk h0).hs j hj
                        have TC : Hid (∀ k : Nat, k < 49 → TV[3 * k]? = some (.int .i64 (S.w k).k) ∧ TV[3 * k + 2]? = some (.int .i64 (S.w k).l)) := fun k hk => by
                          rw [← show tabV S.w = TV from unhide HTV, tabV_cell _ _ (by omega), tabV_cell _ _ (by omega)]
                          unfold fl3
                          refine ⟨?_, ?_⟩
                          · rw [show 3 * k / 3 = k by omega, show 3 * k % 3 = 0 by omega]; rfl
                          · rw [show (3 * k + 2) / 3 = k by omega, show (3 * k + 2) % 3 = 2 by omega]; rfl
                        clear LD1 LD2 hd7 OK1 v1 v2 v4 v5 BT HT HQ
                        generalize ldL (A'.crash keep) 10 (d 7) = LL at *
                        generalize A'.crash keep = A3 at *
                        generalize iv .i64 [3, d 7, 5, 1] = SV at *
                        generalize d 7 = r7 at *
                        go_wp2_with fail
                        refine (unhide CC _ _ (unhide OM0).st).mono ?_
                        rintro e w20 ⟨rfl, h1, h2⟩
                        have OM1 := hide ((unhide OM0).call (St' := fun w G => Has W w G m A3) h1 h2)
                        clear h1 h2 OM0 CC HH
                        go_wp2_with fail
                        refine (unhide CF _ _ (unhide OM1).st).mono ?_
                        rintro e w21 ⟨rfl, h1, h2⟩
                        have OM2 := hide (((unhide OM1).call (St' := fun w G => Has W w G m A3) h1 h2).alloc (Has.stay W m A3) (.cells SV 49))
                        clear h1 h2 OM1 CF
                        go_upto_region 30 with (first | (with_reducible refine wpList_allocZ (by with_unfolding_all rfl) 49 (by with_unfolding_all rfl) #[.int .i64 0, .int .i64 0, .int .i64 0, .int .i64 0] (unhide Z4) ?_) | (with_reducible refine wpList_store_row (by with_unfolding_all rfl) 49 _ _ (by with_unfolding_all rfl) w21.heap.size SV (by with_unfolding_all rfl) (by with_unfolding_all rfl) 49 #[.int .i64 0, .int .i64 0, .int .i64 0, .int .i64 0] (heap_new w21 _) s4 (unhide SZ) (unhide X4) ?_; rw [setRow_alloc]))
                        obtain ⟨g19, hg19⟩ : ∃ g, g = w21.heap.size := ⟨_, rfl⟩
                        rw [← hg19] at OM2 ⊢
                        clear hg19
                        generalize w21.alloc (.cells SV 49) = w22 at *
                        obtain ⟨c0, c1, c2⟩ := unhide K20 w22 g19 ((unhide OM2).at g19 (.cells SV 49) (by simp))
                        clear s4 X4 SZ Z4 c0 c2
                        go_wp2_with fail
                        refine (unhide CX _ _ (unhide OM2).st).mono ?_
                        rintro e w23 ⟨rfl, hk⟩
                        clear c1
                        have OM3 := hide ((unhide OM2).keeps (Has.stay W m A3) hk)
                        clear hk CX OM2
                        have XL := hide (iv_one .i64 LL)
                        have SZL : Hid ((iv .i64 zs7).size = (iv .i64 LL).size) := by show _ = _; rw [iv_size, iv_size, lL]; rfl
                        have s7 : (Tryz.prog.info? 95).map (·.size) = some (iv .i64 LL).size := by rw [iv_size, lL]; kernel_rfl
                        generalize iv .i64 zs7 = ZLV at *
                        generalize iv .i64 LL = LV at *
                        obtain ⟨p1, p2, p3, p4⟩ := (unhide OM3).pair (Has.stay W m A3) ZT TV 66 ZLV LV 95
                        have O7 := hide p1
                        have H8 := hide p2
                        have H9 := hide p3
                        have H9' : Hid ((((w23.alloc (.cells ZT 66)).alloc (.cells ZLV 95)).setRow w23.heap.size TV).heap[(w23.alloc (.cells ZT 66)).heap.size]? = some (.cells ZLV 95 (0, 0))) := by show _ = _; rw [p4]; exact p3
                        have E9 := hide p4
                        clear OM3 p1 p2 p3 p4 lL
                        go_upto_region 31 with (first | (with_reducible refine wpList_allocZ (by with_unfolding_all rfl) 66 (by with_unfolding_all rfl) ZT (unhide ZT2) ?_) | (with_reducible refine wpList_allocZ (by with_unfolding_all rfl) 95 (by with_unfolding_all rfl) ZLV (unhide Z7) ?_) | (with_reducible refine wpList_store_row (by with_unfolding_all rfl) 66 _ _ (by with_unfolding_all rfl) w23.heap.size TV (by with_unfolding_all rfl) (by with_unfolding_all rfl) 66 ZT (unhide H8) st (unhide SZtT) (unhide XtT) ?_) | (with_reducible refine wpList_store_row (by with_unfolding_all rfl) 95 _ _ (by with_unfolding_all rfl) (w23.heap.size + 1) LV (by with_unfolding_all rfl) (by with_unfolding_all rfl) 95 ZLV (unhide H9) s7 (unhide SZL) (unhide XL) ?_) | (with_reducible refine wpList_store_row (by with_unfolding_all rfl) 95 _ _ (by with_unfolding_all rfl) (w23.alloc (.cells ZT 66)).heap.size LV (by with_unfolding_all rfl) (by with_unfolding_all rfl) 95 ZLV (unhide H9') s7 (unhide SZL) (unhide XL) ?_))
                        try rw [unhide E9]
                        clear H8 H9 H9' E9 ZT2 Z7 XtT XL SZtT SZL s7
                        obtain ⟨g22, hg22⟩ : ∃ g, g = w23.heap.size := ⟨_, rfl⟩
                        rw [← hg22] at O7 ⊢
                        clear hg22
                        generalize (((w23.alloc (.cells ZT 66)).alloc (.cells ZLV 95)).setRow g22 TV).setRow (g22 + 1) LV = w24 at *
                        have OM4 := hide ((unhide O7).less (Has.stay W m A3) (L' := [(g22, .cells TV 66), (g19, .cells SV 49), (g15, .cells (waV (waTo S A 49)) 89), (g14, .cells TV 66), (g12, .cells TB 66)]) (by simp))
                        clear O7
                        obtain ⟨c0, c1, c2⟩ := unhide K20 w24 g19 ((unhide OM4).at g19 (.cells SV 49) (by simp))
                        have G22 := hide ((unhide OM4).at g22 (.cells TV 66) (by simp))
                        have G14 := hide ((unhide OM4).at g14 (.cells TV 66) (by simp))
                        have G12 := hide ((unhide OM4).at g12 (.cells TB 66) (by simp))
                        go_wp2_with (first | (with_reducible refine wpList_load_row_g (by with_unfolding_all rfl) 66 (.tmp 22) (by with_unfolding_all rfl) g22 (by with_unfolding_all rfl) _ _ _ _ (unhide G22) Tryz.underlying66 (by with_unfolding_all rfl) st ?_) | (with_reducible refine wpList_load_row_g (by with_unfolding_all rfl) 66 (.tmp 14) (by with_unfolding_all rfl) g14 (by with_unfolding_all rfl) _ _ _ _ (unhide G14) Tryz.underlying66 (by with_unfolding_all rfl) st ?_) | (with_reducible refine wpList_neqA (by with_unfolding_all rfl) 66 _ (.tmp 147) (.tmp 148) (by with_unfolding_all rfl) TV TV (by with_unfolding_all rfl) (by with_unfolding_all rfl) ztab_guard true (unhide EQT) ?_))
                        clear G22 G14 G12 c0 c1 c2 K20
                        have OM5 : Hid (Held W (fun w G => Has W w G m A3) w24 w24 (fun _ => False) [(g22, .cells TV 66), (g15, .cells (waV (waTo S A 49)) 89)]) := ⟨((unhide OM4).less (Has.stay W m A3) (by simp)).1, ((unhide OM4).less (Has.stay W m A3) (by simp)).2.1, fun _ h => h.elim⟩
                        clear OM4
                        go_loopw [25, 26, 27] (fun q _ _ wq => ∃ k : Nat, k ≤ 49 ∧ q = .int .i64 k ∧ Held W (fun w G => Has W w G m A3) w24 wq (fun _ => False) [(g22, .cells TV 66), (g15, .cells (waV (waTo S A 49)) 89)]) (fun q _ _ _ => 49 - (intOf q).toNat)
                        case atStart => exact ⟨0, by omega, rfl, unhide OM5⟩
                        case round =>
                          clear OM5
                          obtain ⟨k, hk, rfl, hh⟩ := hrel
                          have HH := hide hh
                          clear hh
                          by_cases hlk : k < 49
                          · have hk49 : (k : Int) < 49 := by omega
                            obtain ⟨t0, t2⟩ := unhide TC k hlk
                            have HC0 : Hid (∀ w' : World, w'.heap[g22]? = some (.cells TV 66 (0, 0)) → w'.cell? ⟨g22, k * 3, none⟩ = some (.int .i64 (S.w k).k) ∧ w'.cell? ⟨g22, k * 3 + 2, none⟩ = some (.int .i64 (S.w k).l)) := fun w' h => by rw [cell_of_block h, cell_of_block h, Nat.mul_comm k 3]; exact ⟨t0, t2⟩
                            clear t0 t2
                            have CL := hide ((unhide HH).st.loadZ (unhide AN3) (S.w k).l)
                            have ZL := hide zero_lnz
                            have L8 := lnV_size (A3.hasZ (S.w k).l)
                            have XL := hide (lnV_one (A3.hasZ (S.w k).l))
                            have s8 : (Tryz.prog.info? 83).map (·.size) = some (lnV (A3.hasZ (S.w k).l)).size := by rw [L8]; kernel_rfl
                            have SZ8 : Hid ((lnV fun _ => 0).size = (lnV (A3.hasZ (S.w k).l)).size) := by show _ = _; rw [L8, lnV_size]
                            clear L8
                            generalize (lnV fun _ => 0) = ZLN at *
                            by_cases h0 : (S.w k).k = 0
                            · rw [h0] at HC0
                              generalize lnV (A3.hasZ (S.w k).l) = XV at *
                              generalize A3.loadE (S.w k).l = le at *
                              generalize (S.w k).l = ly at *
                              obtain ⟨c0, c2⟩ := unhide HC0 _ ((unhide HH).at g22 (.cells TV 66) (by simp))
                              go_wp2_with fail
                              refine (unhide CL).mono ?_
                              rintro e w33 ⟨rfl, h1, h2⟩
                              clear c0 c2
                              have O4 := hide (((unhide HH).call (St' := fun w G => Has W w G m A3) h1 h2).alloc (Has.stay W m A3) (.cells XV 83))
                              clear h1 h2 HH CL
                              go_upto_region 41 with (first | (with_reducible refine wpList_allocZ (by with_unfolding_all rfl) 83 (by with_unfolding_all rfl) ZLN (unhide ZL) ?_) | (with_reducible refine wpList_store_row (by with_unfolding_all rfl) 83 _ _ (by with_unfolding_all rfl) w33.heap.size XV (by with_unfolding_all rfl) (by with_unfolding_all rfl) 83 ZLN (heap_new w33 _) s8 (unhide SZ8) (unhide XL) ?_; rw [setRow_alloc]))
                              obtain ⟨g26, hg26⟩ : ∃ g, g = w33.heap.size := ⟨_, rfl⟩
                              rw [← hg26] at O4 ⊢
                              clear hg26
                              generalize w33.alloc (.cells XV 83) = w34 at *
                              have O6 := hide ((unhide O4).drew (Has.stay W m A3))
                              clear O4
                              have SS : Hid (w34.drew.cell? ⟨g22, k * 3, none⟩ = some (.int .i64 0)) := (unhide HC0 _ ((unhide O6).at g22 (.cells TV 66) (by simp))).1
                              refine wp_region_noPanic ?_
                              refine wp_region_held_drew (S := fun w' => w'.cell? ⟨g22, k * 3, none⟩ = some (.int .i64 0)) (by kernel_rfl) (unhide SS) (fun hHeld => ?_)
                              clear SS
                              generalize w34.drew = w35 at *
                              refine take_at 0 169 (v := ?_) rfl rfl (by kernel_rfl) (by kernel_rfl) (by kernel_rfl) (Or.inl ⟨by rfl, ?_⟩) hHeld ?_
                              rotate_left
                              · intro w hSw; go_simp; with_reducible rfl
                              simp only [Act.put, List.setIfInBounds_toArray, List.set_cons_zero, List.set_cons_succ]
                              refine take_at 1 170 (v := .pointer (some ⟨g22, k * 3, none⟩)) rfl rfl (by kernel_rfl) (by kernel_rfl) (by kernel_rfl) (Or.inl ⟨by rfl, ?_⟩) hHeld ?_
                              · intro w hSw
                                first | (go_simp; done) | (go_simp; rfl) | (simp [execOp, Act.eval]; done)
                              simp only [Act.put, List.setIfInBounds_toArray, List.set_cons_zero, List.set_cons_succ]
                              refine take_at 2 171 (v := .pointer (some ⟨g22, k * 3, none⟩)) rfl rfl (by kernel_rfl) (by kernel_rfl) (by kernel_rfl) (Or.inl ⟨by rfl, ?_⟩) hHeld ?_
                              · intro w hSw
                                first | (go_simp; done) | (go_simp; rfl) | (simp [execOp, Act.eval]; done)
                              simp only [Act.put, List.setIfInBounds_toArray, List.set_cons_zero, List.set_cons_succ]
                              refine take_at 3 172 (v := ?_) rfl rfl (by kernel_rfl) (by kernel_rfl) (by kernel_rfl) (Or.inl ⟨by rfl, ?_⟩) hHeld ?_
                              rotate_left
                              · intro w hSw; go_simp; with_reducible rfl
                              simp only [Act.put, List.setIfInBounds_toArray, List.set_cons_zero, List.set_cons_succ]
                              refine take_at 4 173 (v := ?_) rfl rfl (by kernel_rfl) (by kernel_rfl) (by kernel_rfl) (Or.inl ⟨by rfl, ?_⟩) hHeld ?_
                              rotate_left
                              · intro w hSw; go_simp; with_reducible rfl
                              simp only [Act.put, List.setIfInBounds_toArray, List.set_cons_zero, List.set_cons_succ]
                              refine take_at 5 174 (v := ?_) rfl rfl (by kernel_rfl) (by kernel_rfl) (by kernel_rfl) (Or.inl ⟨by rfl, ?_⟩) hHeld ?_
                              rotate_left
                              · intro w hSw; go_simp; with_reducible rfl
                              simp only [Act.put, List.setIfInBounds_toArray, List.set_cons_zero, List.set_cons_succ]
                              refine take_at 6 175 rfl rfl (by kernel_rfl) (by kernel_rfl) (by kernel_rfl) (Or.inr ⟨by rfl, rfl⟩) hHeld ?_
                              simp only [Act.put, List.setIfInBounds_toArray, List.set_cons_zero, List.set_cons_succ]
                              refine take_at 7 176 rfl rfl (by kernel_rfl) (by kernel_rfl) (by kernel_rfl) (Or.inr ⟨by rfl, rfl⟩) hHeld ?_
                              simp only [Act.put, List.setIfInBounds_toArray, List.set_cons_zero, List.set_cons_succ]
                              refine take_at 8 177 rfl rfl (by kernel_rfl) (by kernel_rfl) (by kernel_rfl) (Or.inr ⟨by rfl, rfl⟩) hHeld ?_
                              simp only [Act.put, List.setIfInBounds_toArray, List.set_cons_zero, List.set_cons_succ]
                              refine take_at 9 178 rfl rfl (by kernel_rfl) (by kernel_rfl) (by kernel_rfl) (Or.inr ⟨by rfl, rfl⟩) hHeld ?_
                              simp only [Act.put, List.setIfInBounds_toArray, List.set_cons_zero, List.set_cons_succ]
                              refine take_at 10 179 rfl rfl (by kernel_rfl) (by kernel_rfl) (by kernel_rfl) (Or.inr ⟨by rfl, rfl⟩) hHeld ?_
                              simp only [Act.put, List.setIfInBounds_toArray, List.set_cons_zero, List.set_cons_succ]
                              refine take_at 11 180 rfl rfl (by kernel_rfl) (by kernel_rfl) (by kernel_rfl) (Or.inr ⟨by rfl, rfl⟩) hHeld ?_
                              simp only [Act.put, List.setIfInBounds_toArray, List.set_cons_zero, List.set_cons_succ]
                              refine take_at 12 181 (v := ?_) rfl rfl (by kernel_rfl) (by kernel_rfl) (by kernel_rfl) (Or.inl ⟨by rfl, ?_⟩) hHeld ?_
                              rotate_left
                              · intro w hSw; go_simp; with_reducible rfl
                              simp only [Act.put, List.setIfInBounds_toArray, List.set_cons_zero, List.set_cons_succ]
                              refine wpAnyH_done (by kernel_rfl) ?_ _
                              refine NoPanic.normal ?_
                              clear hHeld
                              have O7 := hide ((unhide O6).less (Has.stay W m A3) (L' := [(g22, .cells TV 66), (g15, .cells (waV (waTo S A 49)) 89)]) (by simp))
                              go_wp2_with fail
                              go_roundw
                              case rel => exact ⟨k + 1, by omega, by go_num, unhide O7⟩
                              case measure => simp [intOf]; omega
                            · obtain ⟨q2, q3⟩ := unhide LNS k hlk h0
                              have RK : Hid (∀ w' : World, w'.heap[g15]? = some (.cells (waV (waTo S A 49)) 89 (0, 0)) → w'.rangeAt g15 (k * 10 + 2) (lnV (A.hasZ (S.line (k : Int)))).toList) := fun w' h => wa_line hlk q3 h
                              have EQ := hide (fun (w : World) => zequal_ln 9998 (A.hasZ (S.line (k : Int))) w)
                              rw [q2] at CL
                              rw [q2] at s8 XL SZ8
                              have hne : ((S.w k).k == 0) = false := by simpa using h0
                              have hne2 : ((S.w k).k != 0) = true := by simpa using h0
                              clear q2 q3
                              generalize lnV (A.hasZ (S.line (k : Int))) = XV at *
                              generalize A3.loadE (S.w k).l = le at *
                              generalize (S.w k).k = kk at *
                              generalize (S.w k).l = ly at *
                              have s8l : (Tryz.prog.info? 83).map (·.size) = some XV.toList.length := by rw [Array.length_toList]; exact s8
                              obtain ⟨c0, c2⟩ := unhide HC0 _ ((unhide HH).at g22 (.cells TV 66) (by simp))
                              go_wp2_with fail
                              refine (unhide CL).mono ?_
                              rintro e w33 ⟨rfl, h1, h2⟩
                              clear c0 c2
                              have O4 := hide (((unhide HH).call (St' := fun w G => Has W w G m A3) h1 h2).alloc (Has.stay W m A3) (.cells XV 83))
                              clear h1 h2 HH CL
                              go_upto_region 41 with (first | (with_reducible refine wpList_allocZ (by with_unfolding_all rfl) 83 (by with_unfolding_all rfl) ZLN (unhide ZL) ?_) | (with_reducible refine wpList_store_row (by with_unfolding_all rfl) 83 _ _ (by with_unfolding_all rfl) w33.heap.size XV (by with_unfolding_all rfl) (by with_unfolding_all rfl) 83 ZLN (heap_new w33 _) s8 (unhide SZ8) (unhide XL) ?_; rw [setRow_alloc]))
                              obtain ⟨g26, hg26⟩ : ∃ g, g = w33.heap.size := ⟨_, rfl⟩
                              rw [← hg26] at O4 ⊢
                              clear hg26
                              generalize w33.alloc (.cells XV 83) = w34 at *
                              have O6 := hide ((unhide O4).drew (Has.stay W m A3))
                              clear O4
                              have SS : Hid (w34.drew.cell? ⟨g22, k * 3, none⟩ = some (.int .i64 kk) ∧ w34.drew.rangeAt g26 0 XV.toList ∧ w34.drew.rangeAt g15 (k * 10 + 2) XV.toList) := ⟨(unhide HC0 _ ((unhide O6).at g22 (.cells TV 66) (by simp))).1, fun j u hu => by rw [cell_of_block ((unhide O6).at g26 (.cells XV 83) (by simp)), Nat.zero_add, ← Array.getElem?_toList]; exact hu, unhide RK _ ((unhide O6).at g15 (.cells (waV (waTo S A 49)) 89) (by simp))⟩
                              refine wp_region_noPanic ?_
                              refine wp_region_held_drew (S := fun w' => w'.cell? ⟨g22, k * 3, none⟩ = some (.int .i64 kk) ∧ w'.rangeAt g26 0 XV.toList ∧ w'.rangeAt g15 (k * 10 + 2) XV.toList) (by kernel_rfl) (unhide SS) (fun hHeld => ?_)
                              clear SS RK
                              generalize w34.drew = w35 at *
                              refine take_at 0 169 (v := ?_) rfl rfl (by kernel_rfl) (by kernel_rfl) (by kernel_rfl) (Or.inl ⟨by rfl, ?_⟩) hHeld ?_
                              rotate_left
                              · intro w hSw; go_simp; with_reducible rfl
                              simp only [Act.put, List.setIfInBounds_toArray, List.set_cons_zero, List.set_cons_succ]
                              refine take_at 1 170 (v := .pointer (some ⟨g22, k * 3, none⟩)) rfl rfl (by kernel_rfl) (by kernel_rfl) (by kernel_rfl) (Or.inl ⟨by rfl, ?_⟩) hHeld ?_
                              · intro w hSw
                                first | (go_simp; done) | (go_simp; rfl) | (simp [execOp, Act.eval]; done)
                              simp only [Act.put, List.setIfInBounds_toArray, List.set_cons_zero, List.set_cons_succ]
                              refine take_at 2 171 (v := .pointer (some ⟨g22, k * 3, none⟩)) rfl rfl (by kernel_rfl) (by kernel_rfl) (by kernel_rfl) (Or.inl ⟨by rfl, ?_⟩) hHeld ?_
                              · intro w hSw
                                first | (go_simp; done) | (go_simp; rfl) | (simp [execOp, Act.eval]; done)
                              simp only [Act.put, List.setIfInBounds_toArray, List.set_cons_zero, List.set_cons_succ]
                              refine take_at 3 172 (v := ?_) rfl rfl (by kernel_rfl) (by kernel_rfl) (by kernel_rfl) (Or.inl ⟨by rfl, ?_⟩) hHeld ?_
                              rotate_left
                              · intro w hSw; obtain ⟨c1, c2, c3⟩ := hSw; go_simp; with_reducible rfl
                              simp only [Act.put, List.setIfInBounds_toArray, List.set_cons_zero, List.set_cons_succ]
                              refine take_at 4 173 (v := .bool true) rfl rfl (by kernel_rfl) (by kernel_rfl) (by kernel_rfl) (Or.inl ⟨by rfl, ?_⟩) hHeld ?_
                              · intro w hSw
                                first | (go_simp; done) | (go_simp; simp [hne]; done) | (go_simp; rw [hne]; rfl) | (go_simp; rw [hne2])
                              simp only [Act.put, List.setIfInBounds_toArray, List.set_cons_zero, List.set_cons_succ]
                              refine take_at 5 174 (v := ?_) rfl rfl (by kernel_rfl) (by kernel_rfl) (by kernel_rfl) (Or.inl ⟨by rfl, ?_⟩) hHeld ?_
                              rotate_left
                              · intro w hSw; go_simp; with_reducible rfl
                              simp only [Act.put, List.setIfInBounds_toArray, List.set_cons_zero, List.set_cons_succ]
                              refine take_at 6 175 rfl rfl (by kernel_rfl) (by kernel_rfl) (by kernel_rfl) (yieldsIf_load_mid (by rfl) 83 _ rfl g26 0 rfl XV.toList _ (fun w' h => h.2.1) Tryz.underlying83 rfl s8l) hHeld ?_
                              simp only [Act.put, List.setIfInBounds_toArray, List.set_cons_zero, List.set_cons_succ]
                              refine take_at 7 176 (v := ?_) rfl rfl (by kernel_rfl) (by kernel_rfl) (by kernel_rfl) (Or.inl ⟨by rfl, ?_⟩) hHeld ?_
                              rotate_left
                              · intro w hSw; go_simp; with_reducible rfl
                              simp only [Act.put, List.setIfInBounds_toArray, List.set_cons_zero, List.set_cons_succ]
                              refine take_at 8 177 (v := .pointer (some ⟨g15, k * 10, none⟩)) rfl rfl (by kernel_rfl) (by kernel_rfl) (by kernel_rfl) (Or.inl ⟨by rfl, ?_⟩) hHeld ?_
                              · intro w hSw
                                first | (go_simp; done) | (go_simp; rfl) | (simp [execOp, Act.eval]; done)
                              simp only [Act.put, List.setIfInBounds_toArray, List.set_cons_zero, List.set_cons_succ]
                              refine take_at 9 178 (v := .pointer (some ⟨g15, k * 10 + 2, none⟩)) rfl rfl (by kernel_rfl) (by kernel_rfl) (by kernel_rfl) (Or.inl ⟨by rfl, ?_⟩) hHeld ?_
                              · intro w hSw
                                first | (go_simp; done) | (go_simp; rfl) | (simp [execOp, Act.eval]; done)
                              simp only [Act.put, List.setIfInBounds_toArray, List.set_cons_zero, List.set_cons_succ]
                              refine take_at 10 179 rfl rfl (by kernel_rfl) (by kernel_rfl) (by kernel_rfl) (yieldsIf_load_mid (by rfl) 83 _ rfl g15 (k * 10 + 2) rfl XV.toList _ (fun w' h => h.2.2) Tryz.underlying83 rfl s8l) hHeld ?_
                              simp only [Act.put, List.setIfInBounds_toArray, List.set_cons_zero, List.set_cons_succ]
                              refine take_at 11 180 rfl rfl (by kernel_rfl) (by kernel_rfl) (by kernel_rfl) (yieldsIf_neqA (by rfl) 83 _ (.tmp 175) (.tmp 179) rfl XV XV rfl rfl zln_guard true (unhide EQ)) hHeld ?_
                              simp only [Act.put, List.setIfInBounds_toArray, List.set_cons_zero, List.set_cons_succ]
                              refine take_at 12 181 (v := ?_) rfl rfl (by kernel_rfl) (by kernel_rfl) (by kernel_rfl) (Or.inl ⟨by rfl, ?_⟩) hHeld ?_
                              rotate_left
                              · intro w hSw; go_simp; with_reducible rfl
                              simp only [Act.put, List.setIfInBounds_toArray, List.set_cons_zero, List.set_cons_succ]
                              refine wpAnyH_done (by kernel_rfl) ?_ _
                              refine NoPanic.normal ?_
                              clear hHeld
                              have O7 := hide ((unhide O6).less (Has.stay W m A3) (L' := [(g22, .cells TV 66), (g15, .cells (waV (waTo S A 49)) 89)]) (by simp))
                              go_wp2_with fail
                              go_roundw
                              case rel => exact ⟨k + 1, by omega, by go_num, unhide O7⟩
                              case measure => simp [intOf]; omega
                          · have hge : ¬ ((k : Int) < 49) := by omega
                            have KF := hide ((Has.stay W m A3).sz _ _ (unhide HH).st)
                            clear hlk
                            go_wp2_with fail
                            go_ret
                            exact ⟨rfl, (unhide KF).below (Nat.le_refl _) (fun _ h => h.elim)⟩
                    | succ l =>
                      have hpos : ((l + 1 : Nat) : Int) > 0 := by omega
                      cases hon : A'.on with
                      | false =>
                        rw [hon] at CO
                        have HT := hide ((unhide HQ).told (Or.inr hon) keep)
                        go_wp2_with fail
                        refine (unhide CL).mono ?_
                        rintro e wq ⟨rfl, rfl⟩
                        clear CL
                        go_wp2_with fail
                        refine (unhide CO).mono ?_
                        rintro e wr ⟨rfl, rfl⟩
                        clear CO
                        go_upto_region 28 with fail
                        have OM0 := hide (unhide HH).drop
                        obtain ⟨BT, hok8, hn4'⟩ := unhide HT
                        have hn4 : (A'.crash keep).n = 400 := hn4'
                        have OK1 : Hid (A'.ok 1000) := ok_mono hok8 (by omega)
                        have CC := hide (fun (w' : World) G' (h' : Has W w' G' m A') => h'.crash_arg (unhide OK1) ak keep capk (unhide HKP).2.1 (unhide HKP).2.2 (by
                          rcases (unhide HKP).1 with e | ⟨y, off, e, hy⟩
                          · exact Or.inl e
                          · exact Or.inr ⟨y, off, e, hy⟩))
                        have CF := hide (fun (w' : World) G' (h' : Has W w' G' m (A'.crash keep)) => h'.find (ok_crash (unhide OK1) keep))
                        rw [BT.e] at CF
                        have Z4 : Hid ((Tryz.prog.info? 49).map (·.zero) = some (some (.agg #[.int .i64 0, .int .i64 0, .int .i64 0, .int .i64 0]))) := by show _ = _; kernel_rfl
                        have ZT2 : Hid ((Tryz.prog.info? 66).map (·.zero) = some (some (.agg ZT))) := by show _ = _; rw [← unhide HZT]; exact zero_tab
                        have Z7 : Hid ((Tryz.prog.info? 95).map (·.zero) = some (some (.agg (iv .i64 zs7)))) := hide zero_7z
                        rcases BT.v with ⟨v1, v2, v3, v4⟩ | ⟨d, v1, v2, v4, v5⟩
                        · subst v3
                          rw [v1, v2] at CF
                          have s4 := s4_sup [2, K0.d 7, 0, 1] rfl
                          have X4 := hide (iv_one .i64 [2, K0.d 7, 0, 1])
                          have SZ : Hid ((#[.int .i64 0, .int .i64 0, .int .i64 0, .int .i64 0] : Array Value).size = (iv .i64 [2, K0.d 7, 0, 1]).size) := rfl
                          have K20 : Hid (∀ (w' : World) (g : Nat), w'.heap[g]? = some (.cells (iv .i64 [2, K0.d 7, 0, 1]) 49 (0, 0)) → w'.cell? ⟨g, 0, none⟩ = some (.int .i64 2) ∧ w'.cell? ⟨g, 1, none⟩ = some (.int .i64 (K0.d 7)) ∧ w'.cell? ⟨g, 2, none⟩ = some (.int .i64 0)) := fun w' g h => by
                            refine ⟨?_, ?_, ?_⟩ <;> rw [cell_of_block h] <;> rfl
                          obtain ⟨LD1, LD2⟩ := v4.load (by decide) hn4 rfl
                          have hd7 : (Lit.int .i64 (K0.d 7)).wf = true := by
                            have h := v4.db 7 (by decide)
                            exact wf_i64 (by omega) (by omega)
                          have CX : Hid (∀ (w' : World) (G' : Nat → Prop), Has W w' G' m (A'.crash keep) → Calls Tryz.prog 46 #[.pointer (some ⟨m, 0, none⟩), .int .i64 10, .int .i64 (K0.d 7)] w' fun e w'' => e = .returned (.tuple #[.agg TB, .agg (iv .i64 (ldL (A'.crash keep) 10 (K0.d 7))), .int .i64 0]) ∧ Keeps (fun _ => False) w' w'') := fun w' G' h' => by
                            obtain ⟨F, c, cs, q1, q2, q3, q4⟩ := h'
                            have q := xload_any q1 (by rw [hn4]; decide) (ok_crash (unhide OK1) keep).2.2.1 10 (K0.d 7) hd7
                            rw [LD1, LD2] at q
                            unfold LdPost at q
                            rw [show iv .i64 (rowE 49 wS) = TB from unhide HTB] at q
                            exact q
                          have lL := ldL_len (A'.crash keep) 10 (K0.d 7)
                          have AN3 : Hid ((A'.crash keep).n ≤ 1024) := by show _ ≤ _; rw [hn4]; decide
                          have XtT := hide (tabV_one wS)
                          rw [unhide HTB] at XtT
                          have SZtT : Hid (ZT.size = TB.size) := by show _ = _; rw [← unhide HZT, ← unhide HTB, tabV_size, tabV_size]
                          clear LD1 LD2 hd7 OK1 v1 v2 v4 BT HT HQ
                          generalize ldL (A'.crash keep) 10 (K0.d 7) = LL at *
                          generalize A'.crash keep = A3 at *
                          generalize iv .i64 [2, K0.d 7, 0, 1] = SV at *
                          generalize K0.d 7 = r7 at *
                          go_wp2_with fail
                          refine (unhide CC _ _ (unhide OM0).st).mono ?_
                          rintro e w20 ⟨rfl, h1, h2⟩
                          have OM1 := hide ((unhide OM0).call (St' := fun w G => Has W w G m A3) h1 h2)
                          clear h1 h2 OM0 CC HH
                          go_wp2_with fail
                          refine (unhide CF _ _ (unhide OM1).st).mono ?_
                          rintro e w21 ⟨rfl, h1, h2⟩
                          have OM2 := hide (((unhide OM1).call (St' := fun w G => Has W w G m A3) h1 h2).alloc (Has.stay W m A3) (.cells SV 49))
                          clear h1 h2 OM1 CF
                          go_upto_region 30 with (first | (with_reducible refine wpList_allocZ (by with_unfolding_all rfl) 49 (by with_unfolding_all rfl) #[.int .i64 0, .int .i64 0, .int .i64 0, .int .i64 0] (unhide Z4) ?_) | (with_reducible refine wpList_store_row (by with_unfolding_all rfl) 49 _ _ (by with_unfolding_all rfl) w21.heap.size SV (by with_unfolding_all rfl) (by with_unfolding_all rfl) 49 #[.int .i64 0, .int .i64 0, .int .i64 0, .int .i64 0] (heap_new w21 _) s4 (unhide SZ) (unhide X4) ?_; rw [setRow_alloc]))
                          obtain ⟨g19, hg19⟩ : ∃ g, g = w21.heap.size := ⟨_, rfl⟩
                          rw [← hg19] at OM2 ⊢
                          clear hg19
                          generalize w21.alloc (.cells SV 49) = w22 at *
                          obtain ⟨c0, c1, c2⟩ := unhide K20 w22 g19 ((unhide OM2).at g19 (.cells SV 49) (by simp))
                          clear s4 X4 SZ Z4 c0 c2
                          go_wp2_with fail
                          refine (unhide CX _ _ (unhide OM2).st).mono ?_
                          rintro e w23 ⟨rfl, hk⟩
                          clear c1
                          have OM3 := hide ((unhide OM2).keeps (Has.stay W m A3) hk)
                          clear hk CX OM2
                          have XL := hide (iv_one .i64 LL)
                          have SZL : Hid ((iv .i64 zs7).size = (iv .i64 LL).size) := by show _ = _; rw [iv_size, iv_size, lL]; rfl
                          have s7 : (Tryz.prog.info? 95).map (·.size) = some (iv .i64 LL).size := by rw [iv_size, lL]; kernel_rfl
                          generalize iv .i64 zs7 = ZLV at *
                          generalize iv .i64 LL = LV at *
                          obtain ⟨p1, p2, p3, p4⟩ := (unhide OM3).pair (Has.stay W m A3) ZT TB 66 ZLV LV 95
                          have O7 := hide p1
                          have H8 := hide p2
                          have H9 := hide p3
                          have H9' : Hid ((((w23.alloc (.cells ZT 66)).alloc (.cells ZLV 95)).setRow w23.heap.size TB).heap[(w23.alloc (.cells ZT 66)).heap.size]? = some (.cells ZLV 95 (0, 0))) := by show _ = _; rw [p4]; exact p3
                          have E9 := hide p4
                          clear OM3 p1 p2 p3 p4 lL
                          go_upto_region 31 with (first | (with_reducible refine wpList_allocZ (by with_unfolding_all rfl) 66 (by with_unfolding_all rfl) ZT (unhide ZT2) ?_) | (with_reducible refine wpList_allocZ (by with_unfolding_all rfl) 95 (by with_unfolding_all rfl) ZLV (unhide Z7) ?_) | (with_reducible refine wpList_store_row (by with_unfolding_all rfl) 66 _ _ (by with_unfolding_all rfl) w23.heap.size TB (by with_unfolding_all rfl) (by with_unfolding_all rfl) 66 ZT (unhide H8) stb (unhide SZtT) (unhide XtT) ?_) | (with_reducible refine wpList_store_row (by with_unfolding_all rfl) 95 _ _ (by with_unfolding_all rfl) (w23.heap.size + 1) LV (by with_unfolding_all rfl) (by with_unfolding_all rfl) 95 ZLV (unhide H9) s7 (unhide SZL) (unhide XL) ?_) | (with_reducible refine wpList_store_row (by with_unfolding_all rfl) 95 _ _ (by with_unfolding_all rfl) (w23.alloc (.cells ZT 66)).heap.size LV (by with_unfolding_all rfl) (by with_unfolding_all rfl) 95 ZLV (unhide H9') s7 (unhide SZL) (unhide XL) ?_))
                          try rw [unhide E9]
                          clear H8 H9 H9' E9 ZT2 Z7 XtT XL SZtT SZL s7
                          obtain ⟨g22, hg22⟩ : ∃ g, g = w23.heap.size := ⟨_, rfl⟩
                          rw [← hg22] at O7 ⊢
                          clear hg22
                          generalize (((w23.alloc (.cells ZT 66)).alloc (.cells ZLV 95)).setRow g22 TB).setRow (g22 + 1) LV = w24 at *
                          have OM4 := hide ((unhide O7).less (Has.stay W m A3) (L' := [(g22, .cells TB 66), (g19, .cells SV 49), (g15, .cells (waV (waTo S A 49)) 89), (g14, .cells TV 66), (g12, .cells TB 66)]) (by simp))
                          clear O7
                          obtain ⟨c0, c1, c2⟩ := unhide K20 w24 g19 ((unhide OM4).at g19 (.cells SV 49) (by simp))
                          have G22 := hide ((unhide OM4).at g22 (.cells TB 66) (by simp))
                          have G14 := hide ((unhide OM4).at g14 (.cells TV 66) (by simp))
                          have G12 := hide ((unhide OM4).at g12 (.cells TB 66) (by simp))
                          have KF := hide ((Has.stay W m A3).sz _ _ (unhide OM4).st)
                          go_wp2_with (first | (with_reducible refine wpList_load_row_g (by with_unfolding_all rfl) 66 (.tmp 22) (by with_unfolding_all rfl) g22 (by with_unfolding_all rfl) _ _ _ _ (unhide G22) Tryz.underlying66 (by with_unfolding_all rfl) stb ?_) | (with_reducible refine wpList_load_row_g (by with_unfolding_all rfl) 66 (.tmp 12) (by with_unfolding_all rfl) g12 (by with_unfolding_all rfl) _ _ _ _ (unhide G12) Tryz.underlying66 (by with_unfolding_all rfl) stb ?_) | (with_reducible refine wpList_eqlA (by with_unfolding_all rfl) 66 _ (.tmp 139) (.tmp 140) (by with_unfolding_all rfl) TB TB (by with_unfolding_all rfl) (by with_unfolding_all rfl) ztab_guard true (unhide EQB) ?_))
                          go_ret
                          exact ⟨rfl, (unhide KF).below (Nat.le_refl _) (fun _ h => h.elim)⟩
                        · skip
                          rw [v1, v2] at CF
                          have s4 := s4_sup [3, d 7, 5, 1] rfl
                          have X4 := hide (iv_one .i64 [3, d 7, 5, 1])
                          have SZ : Hid ((#[.int .i64 0, .int .i64 0, .int .i64 0, .int .i64 0] : Array Value).size = (iv .i64 [3, d 7, 5, 1]).size) := rfl
                          have K20 : Hid (∀ (w' : World) (g : Nat), w'.heap[g]? = some (.cells (iv .i64 [3, d 7, 5, 1]) 49 (0, 0)) → w'.cell? ⟨g, 0, none⟩ = some (.int .i64 3) ∧ w'.cell? ⟨g, 1, none⟩ = some (.int .i64 (d 7)) ∧ w'.cell? ⟨g, 2, none⟩ = some (.int .i64 5)) := fun w' g h => by
                            refine ⟨?_, ?_, ?_⟩ <;> rw [cell_of_block h] <;> rfl
                          obtain ⟨LD1, LD2⟩ := v4.load (by decide) hn4 rfl
                          have hd7 : (Lit.int .i64 (d 7)).wf = true := by
                            have h := v4.db 7 (by decide)
                            exact wf_i64 (by omega) (by omega)
                          have CX : Hid (∀ (w' : World) (G' : Nat → Prop), Has W w' G' m (A'.crash keep) → Calls Tryz.prog 46 #[.pointer (some ⟨m, 0, none⟩), .int .i64 10, .int .i64 (d 7)] w' fun e w'' => e = .returned (.tuple #[.agg TV, .agg (iv .i64 (ldL (A'.crash keep) 10 (d 7))), .int .i64 0]) ∧ Keeps (fun _ => False) w' w'') := fun w' G' h' => by
                            obtain ⟨F, c, cs, q1, q2, q3, q4⟩ := h'
                            have q := xload_any q1 (by rw [hn4]; decide) (ok_crash (unhide OK1) keep).2.2.1 10 (d 7) hd7
                            rw [LD1, LD2] at q
                            unfold LdPost at q
                            rw [show iv .i64 (rowE 49 S.w) = TV from unhide HTV] at q
                            exact q
                          have lL := ldL_len (A'.crash keep) 10 (d 7)
                          have AN3 : Hid ((A'.crash keep).n ≤ 1024) := by show _ ≤ _; rw [hn4]; decide
                          have XtT := hide (tabV_one S.w)
                          rw [unhide HTV] at XtT
                          have SZtT : Hid (ZT.size = TV.size) := by show _ = _; rw [← unhide HZT, ← unhide HTV, tabV_size, tabV_size]
                          have LNS : Hid (∀ k : Nat, k < 49 → (S.w k).k ≠ 0 → lnV ((A'.crash keep).hasZ (S.w k).l) = lnV (A.hasZ (S.line (k : Int))) ∧ S.getE A (k : Int) = 0) := fun k hk h0 => by
                            obtain ⟨g1, g2⟩ := get_there (unhide HD).good (unhide HD).calm (unhide HD).n hk h0
                            refine ⟨?_, g1⟩
                            rw [g2]
                            refine lnV_same fun j hj => ?_
                            have hz : (A'.crash keep).isZ (S.w k).l := by
                              have := v4.te k hk h0
                              show 0 ≤ (S.w k).l ∧ (S.w k).l < (A'.crash keep).n
                              rw [hn4]
                              omega
                            unfold Mm.hasZ
                            rw [if_pos ⟨hz, rfl⟩]
                            exact (v5 k hk h0).hs j hj
                          have TC : Hid (∀ k : Nat, k < 49 → TV[3 * k]? = some (.int .i64 (S.w k).k) ∧ TV[3 * k + 2]? = some (.int .i64 (S.w k).l)) := fun k hk => by
                            rw [← show tabV S.w = TV from unhide HTV, tabV_cell _ _ (by omega), tabV_cell _ _ (by omega)]
                            unfold fl3
                            refine ⟨?_, ?_⟩
                            · rw [show 3 * k / 3 = k by omega, show 3 * k % 3 = 0 by omega]; rfl
                            · rw [show (3 * k + 2) / 3 = k by omega, show (3 * k + 2) % 3 = 2 by omega]; rfl
                          clear LD1 LD2 hd7 OK1 v1 v2 v4 v5 BT HT HQ
                          generalize ldL (A'.crash keep) 10 (d 7) = LL at *
                          generalize A'.crash keep = A3 at *
                          generalize iv .i64 [3, d 7, 5, 1] = SV at *
                          generalize d 7 = r7 at *
                          go_wp2_with fail
                          refine (unhide CC _ _ (unhide OM0).st).mono ?_
                          rintro e w20 ⟨rfl, h1, h2⟩
                          have OM1 := hide ((unhide OM0).call (St' := fun w G => Has W w G m A3) h1 h2)
                          clear h1 h2 OM0 CC HH
                          go_wp2_with fail
                          refine (unhide CF _ _ (unhide OM1).st).mono ?_
                          rintro e w21 ⟨rfl, h1, h2⟩
                          have OM2 := hide (((unhide OM1).call (St' := fun w G => Has W w G m A3) h1 h2).alloc (Has.stay W m A3) (.cells SV 49))
                          clear h1 h2 OM1 CF
                          go_upto_region 30 with (first | (with_reducible refine wpList_allocZ (by with_unfolding_all rfl) 49 (by with_unfolding_all rfl) #[.int .i64 0, .int .i64 0, .int .i64 0, .int .i64 0] (unhide Z4) ?_) | (with_reducible refine wpList_store_row (by with_unfolding_all rfl) 49 _ _ (by with_unfolding_all rfl) w21.heap.size SV (by with_unfolding_all rfl) (by with_unfolding_all rfl) 49 #[.int .i64 0, .int .i64 0, .int .i64 0, .int .i64 0] (heap_new w21 _) s4 (unhide SZ) (unhide X4) ?_; rw [setRow_alloc]))
                          obtain ⟨g19, hg19⟩ : ∃ g, g = w21.heap.size := ⟨_, rfl⟩
                          rw [← hg19] at OM2 ⊢
                          clear hg19
                          generalize w21.alloc (.cells SV 49) = w22 at *
                          obtain ⟨c0, c1, c2⟩ := unhide K20 w22 g19 ((unhide OM2).at g19 (.cells SV 49) (by simp))
                          clear s4 X4 SZ Z4 c0 c2
                          go_wp2_with fail
                          refine (unhide CX _ _ (unhide OM2).st).mono ?_
                          rintro e w23 ⟨rfl, hk⟩
                          clear c1
                          have OM3 := hide ((unhide OM2).keeps (Has.stay W m A3) hk)
                          clear hk CX OM2
                          have XL := hide (iv_one .i64 LL)
                          have SZL : Hid ((iv .i64 zs7).size = (iv .i64 LL).size) := by show _ = _; rw [iv_size, iv_size, lL]; rfl
                          have s7 : (Tryz.prog.info? 95).map (·.size) = some (iv .i64 LL).size := by rw [iv_size, lL]; kernel_rfl
                          generalize iv .i64 zs7 = ZLV at *
                          generalize iv .i64 LL = LV at *
                          obtain ⟨p1, p2, p3, p4⟩ := (unhide OM3).pair (Has.stay W m A3) ZT TV 66 ZLV LV 95
                          have O7 := hide p1
                          have H8 := hide p2
                          have H9 := hide p3
                          have H9' : Hid ((((w23.alloc (.cells ZT 66)).alloc (.cells ZLV 95)).setRow w23.heap.size TV).heap[(w23.alloc (.cells ZT 66)).heap.size]? = some (.cells ZLV 95 (0, 0))) := by show _ = _; rw [p4]; exact p3
                          have E9 := hide p4
                          clear OM3 p1 p2 p3 p4 lL
                          go_upto_region 31 with (first | (with_reducible refine wpList_allocZ (by with_unfolding_all rfl) 66 (by with_unfolding_all rfl) ZT (unhide ZT2) ?_) | (with_reducible refine wpList_allocZ (by with_unfolding_all rfl) 95 (by with_unfolding_all rfl) ZLV (unhide Z7) ?_) | (with_reducible refine wpList_store_row (by with_unfolding_all rfl) 66 _ _ (by with_unfolding_all rfl) w23.heap.size TV (by with_unfolding_all rfl) (by with_unfolding_all rfl) 66 ZT (unhide H8) st (unhide SZtT) (unhide XtT) ?_) | (with_reducible refine wpList_store_row (by with_unfolding_all rfl) 95 _ _ (by with_unfolding_all rfl) (w23.heap.size + 1) LV (by with_unfolding_all rfl) (by with_unfolding_all rfl) 95 ZLV (unhide H9) s7 (unhide SZL) (unhide XL) ?_) | (with_reducible refine wpList_store_row (by with_unfolding_all rfl) 95 _ _ (by with_unfolding_all rfl) (w23.alloc (.cells ZT 66)).heap.size LV (by with_unfolding_all rfl) (by with_unfolding_all rfl) 95 ZLV (unhide H9') s7 (unhide SZL) (unhide XL) ?_))
                          try rw [unhide E9]
                          clear H8 H9 H9' E9 ZT2 Z7 XtT XL SZtT SZL s7
                          obtain ⟨g22, hg22⟩ : ∃ g, g = w23.heap.size := ⟨_, rfl⟩
                          rw [← hg22] at O7 ⊢
                          clear hg22
                          generalize (((w23.alloc (.cells ZT 66)).alloc (.cells ZLV 95)).setRow g22 TV).setRow (g22 + 1) LV = w24 at *
                          have OM4 := hide ((unhide O7).less (Has.stay W m A3) (L' := [(g22, .cells TV 66), (g19, .cells SV 49), (g15, .cells (waV (waTo S A 49)) 89), (g14, .cells TV 66), (g12, .cells TB 66)]) (by simp))
                          clear O7
                          obtain ⟨c0, c1, c2⟩ := unhide K20 w24 g19 ((unhide OM4).at g19 (.cells SV 49) (by simp))
                          have G22 := hide ((unhide OM4).at g22 (.cells TV 66) (by simp))
                          have G14 := hide ((unhide OM4).at g14 (.cells TV 66) (by simp))
                          have G12 := hide ((unhide OM4).at g12 (.cells TB 66) (by simp))
                          go_wp2_with (first | (with_reducible refine wpList_load_row_g (by with_unfolding_all rfl) 66 (.tmp 22) (by with_unfolding_all rfl) g22 (by with_unfolding_all rfl) _ _ _ _ (unhide G22) Tryz.underlying66 (by with_unfolding_all rfl) st ?_) | (with_reducible refine wpList_load_row_g (by with_unfolding_all rfl) 66 (.tmp 14) (by with_unfolding_all rfl) g14 (by with_unfolding_all rfl) _ _ _ _ (unhide G14) Tryz.underlying66 (by with_unfolding_all rfl) st ?_) | (with_reducible refine wpList_neqA (by with_unfolding_all rfl) 66 _ (.tmp 147) (.tmp 148) (by with_unfolding_all rfl) TV TV (by with_unfolding_all rfl) (by with_unfolding_all rfl) ztab_guard true (unhide EQT) ?_))
                          clear G22 G14 G12 c0 c1 c2 K20
                          have OM5 : Hid (Held W (fun w G => Has W w G m A3) w24 w24 (fun _ => False) [(g22, .cells TV 66), (g15, .cells (waV (waTo S A 49)) 89)]) := ⟨((unhide OM4).less (Has.stay W m A3) (by simp)).1, ((unhide OM4).less (Has.stay W m A3) (by simp)).2.1, fun _ h => h.elim⟩
                          clear OM4
                          go_loopw [25, 26, 27] (fun q _ _ wq => ∃ k : Nat, k ≤ 49 ∧ q = .int .i64 k ∧ Held W (fun w G => Has W w G m A3) w24 wq (fun _ => False) [(g22, .cells TV 66), (g15, .cells (waV (waTo S A 49)) 89)]) (fun q _ _ _ => 49 - (intOf q).toNat)
                          case atStart => exact ⟨0, by omega, rfl, unhide OM5⟩
                          case round =>
                            clear OM5
                            obtain ⟨k, hk, rfl, hh⟩ := hrel
                            have HH := hide hh
                            clear hh
                            by_cases hlk : k < 49
                            · have hk49 : (k : Int) < 49 := by omega
                              obtain ⟨t0, t2⟩ := unhide TC k hlk
                              have HC0 : Hid (∀ w' : World, w'.heap[g22]? = some (.cells TV 66 (0, 0)) → w'.cell? ⟨g22, k * 3, none⟩ = some (.int .i64 (S.w k).k) ∧ w'.cell? ⟨g22, k * 3 + 2, none⟩ = some (.int .i64 (S.w k).l)) := fun w' h => by rw [cell_of_block h, cell_of_block h, Nat.mul_comm k 3]; exact ⟨t0, t2⟩
                              clear t0 t2
                              have CL := hide ((unhide HH).st.loadZ (unhide AN3) (S.w k).l)
                              have ZL := hide zero_lnz
                              have L8 := lnV_size (A3.hasZ (S.w k).l)
                              have XL := hide (lnV_one (A3.hasZ (S.w k).l))
                              have s8 : (Tryz.prog.info? 83).map (·.size) = some (lnV (A3.hasZ (S.w k).l)).size := by rw [L8]; kernel_rfl
                              have SZ8 : Hid ((lnV fun _ => 0).size = (lnV (A3.hasZ (S.w k).l)).size) := by show _ = _; rw [L8, lnV_size]
                              clear L8
                              generalize (lnV fun _ => 0) = ZLN at *
                              by_cases h0 : (S.w k).k = 0
                              · rw [h0] at HC0
                                generalize lnV (A3.hasZ (S.w k).l) = XV at *
                                generalize A3.loadE (S.w k).l = le at *
                                generalize (S.w k).l = ly at *
                                obtain ⟨c0, c2⟩ := unhide HC0 _ ((unhide HH).at g22 (.cells TV 66) (by simp))
                                go_wp2_with fail
                                refine (unhide CL).mono ?_
                                rintro e w33 ⟨rfl, h1, h2⟩
                                clear c0 c2
                                have O4 := hide (((unhide HH).call (St' := fun w G => Has W w G m A3) h1 h2).alloc (Has.stay W m A3) (.cells XV 83))
                                clear h1 h2 HH CL
                                go_upto_region 41 with (first | (with_reducible refine wpList_allocZ (by with_unfolding_all rfl) 83 (by with_unfolding_all rfl) ZLN (unhide ZL) ?_) | (with_reducible refine wpList_store_row (by with_unfolding_all rfl) 83 _ _ (by with_unfolding_all rfl) w33.heap.size XV (by with_unfolding_all rfl) (by with_unfolding_all rfl) 83 ZLN (heap_new w33 _) s8 (unhide SZ8) (unhide XL) ?_; rw [setRow_alloc]))
                                obtain ⟨g26, hg26⟩ : ∃ g, g = w33.heap.size := ⟨_, rfl⟩
                                rw [← hg26] at O4 ⊢
                                clear hg26
                                generalize w33.alloc (.cells XV 83) = w34 at *
                                have O6 := hide ((unhide O4).drew (Has.stay W m A3))
                                clear O4
                                have SS : Hid (w34.drew.cell? ⟨g22, k * 3, none⟩ = some (.int .i64 0)) := (unhide HC0 _ ((unhide O6).at g22 (.cells TV 66) (by simp))).1
                                refine wp_region_noPanic ?_
                                refine wp_region_held_drew (S := fun w' => w'.cell? ⟨g22, k * 3, none⟩ = some (.int .i64 0)) (by kernel_rfl) (unhide SS) (fun hHeld => ?_)
                                clear SS
                                generalize w34.drew = w35 at *
                                refine take_at 0 169 (v := ?_) rfl rfl (by kernel_rfl) (by kernel_rfl) (by kernel_rfl) (Or.inl ⟨by rfl, ?_⟩) hHeld ?_
                                rotate_left
                                · intro w hSw; go_simp; with_reducible rfl
                                simp only [Act.put, List.setIfInBounds_toArray, List.set_cons_zero, List.set_cons_succ]
                                refine take_at 1 170 (v := .pointer (some ⟨g22, k * 3, none⟩)) rfl rfl (by kernel_rfl) (by kernel_rfl) (by kernel_rfl) (Or.inl ⟨by rfl, ?_⟩) hHeld ?_
                                · intro w hSw
                                  first | (go_simp; done) | (go_simp; rfl) | (simp [execOp, Act.eval]; done)
                                simp only [Act.put, List.setIfInBounds_toArray, List.set_cons_zero, List.set_cons_succ]
                                refine take_at 2 171 (v := .pointer (some ⟨g22, k * 3, none⟩)) rfl rfl (by kernel_rfl) (by kernel_rfl) (by kernel_rfl) (Or.inl ⟨by rfl, ?_⟩) hHeld ?_
                                · intro w hSw
                                  first | (go_simp; done) | (go_simp; rfl) | (simp [execOp, Act.eval]; done)
                                simp only [Act.put, List.setIfInBounds_toArray, List.set_cons_zero, List.set_cons_succ]
                                refine take_at 3 172 (v := ?_) rfl rfl (by kernel_rfl) (by kernel_rfl) (by kernel_rfl) (Or.inl ⟨by rfl, ?_⟩) hHeld ?_
                                rotate_left
                                · intro w hSw; go_simp; with_reducible rfl
                                simp only [Act.put, List.setIfInBounds_toArray, List.set_cons_zero, List.set_cons_succ]
                                refine take_at 4 173 (v := ?_) rfl rfl (by kernel_rfl) (by kernel_rfl) (by kernel_rfl) (Or.inl ⟨by rfl, ?_⟩) hHeld ?_
                                rotate_left
                                · intro w hSw; go_simp; with_reducible rfl
                                simp only [Act.put, List.setIfInBounds_toArray, List.set_cons_zero, List.set_cons_succ]
                                refine take_at 5 174 (v := ?_) rfl rfl (by kernel_rfl) (by kernel_rfl) (by kernel_rfl) (Or.inl ⟨by rfl, ?_⟩) hHeld ?_
                                rotate_left
                                · intro w hSw; go_simp; with_reducible rfl
                                simp only [Act.put, List.setIfInBounds_toArray, List.set_cons_zero, List.set_cons_succ]
                                refine take_at 6 175 rfl rfl (by kernel_rfl) (by kernel_rfl) (by kernel_rfl) (Or.inr ⟨by rfl, rfl⟩) hHeld ?_
                                simp only [Act.put, List.setIfInBounds_toArray, List.set_cons_zero, List.set_cons_succ]
                                refine take_at 7 176 rfl rfl (by kernel_rfl) (by kernel_rfl) (by kernel_rfl) (Or.inr ⟨by rfl, rfl⟩) hHeld ?_
                                simp only [Act.put, List.setIfInBounds_toArray, List.set_cons_zero, List.set_cons_succ]
                                refine take_at 8 177 rfl rfl (by kernel_rfl) (by kernel_rfl) (by kernel_rfl) (Or.inr ⟨by rfl, rfl⟩) hHeld ?_
                                simp only [Act.put, List.setIfInBounds_toArray, List.set_cons_zero, List.set_cons_succ]
                                refine take_at 9 178 rfl rfl (by kernel_rfl) (by kernel_rfl) (by kernel_rfl) (Or.inr ⟨by rfl, rfl⟩) hHeld ?_
                                simp only [Act.put, List.setIfInBounds_toArray, List.set_cons_zero, List.set_cons_succ]
                                refine take_at 10 179 rfl rfl (by kernel_rfl) (by kernel_rfl) (by kernel_rfl) (Or.inr ⟨by rfl, rfl⟩) hHeld ?_
                                simp only [Act.put, List.setIfInBounds_toArray, List.set_cons_zero, List.set_cons_succ]
                                refine take_at 11 180 rfl rfl (by kernel_rfl) (by kernel_rfl) (by kernel_rfl) (Or.inr ⟨by rfl, rfl⟩) hHeld ?_
                                simp only [Act.put, List.setIfInBounds_toArray, List.set_cons_zero, List.set_cons_succ]
                                refine take_at 12 181 (v := ?_) rfl rfl (by kernel_rfl) (by kernel_rfl) (by kernel_rfl) (Or.inl ⟨by rfl, ?_⟩) hHeld ?_
                                rotate_left
                                · intro w hSw; go_simp; with_reducible rfl
                                simp only [Act.put, List.setIfInBounds_toArray, List.set_cons_zero, List.set_cons_succ]
                                refine wpAnyH_done (by kernel_rfl) ?_ _
                                refine NoPanic.normal ?_
                                clear hHeld
                                have O7 := hide ((unhide O6).less (Has.stay W m A3) (L' := [(g22, .cells TV 66), (g15, .cells (waV (waTo S A 49)) 89)]) (by simp))
                                go_wp2_with fail
                                go_roundw
                                case rel => exact ⟨k + 1, by omega, by go_num, unhide O7⟩
                                case measure => simp [intOf]; omega
                              · obtain ⟨q2, q3⟩ := unhide LNS k hlk h0
                                have RK : Hid (∀ w' : World, w'.heap[g15]? = some (.cells (waV (waTo S A 49)) 89 (0, 0)) → w'.rangeAt g15 (k * 10 + 2) (lnV (A.hasZ (S.line (k : Int)))).toList) := fun w' h => wa_line hlk q3 h
                                have EQ := hide (fun (w : World) => zequal_ln 9998 (A.hasZ (S.line (k : Int))) w)
                                rw [q2] at CL
                                rw [q2] at s8 XL SZ8
                                have hne : ((S.w k).k == 0) = false := by simpa using h0
                                have hne2 : ((S.w k).k != 0) = true := by simpa using h0
                                clear q2 q3
                                generalize lnV (A.hasZ (S.line (k : Int))) = XV at *
                                generalize A3.loadE (S.w k).l = le at *
                                generalize (S.w k).k = kk at *
                                generalize (S.w k).l = ly at *
                                have s8l : (Tryz.prog.info? 83).map (·.size) = some XV.toList.length := by rw [Array.length_toList]; exact s8
                                obtain ⟨c0, c2⟩ := unhide HC0 _ ((unhide HH).at g22 (.cells TV 66) (by simp))
                                go_wp2_with fail
                                refine (unhide CL).mono ?_
                                rintro e w33 ⟨rfl, h1, h2⟩
                                clear c0 c2
                                have O4 := hide (((unhide HH).call (St' := fun w G => Has W w G m A3) h1 h2).alloc (Has.stay W m A3) (.cells XV 83))
                                clear h1 h2 HH CL
                                go_upto_region 41 with (first | (with_reducible refine wpList_allocZ (by with_unfolding_all rfl) 83 (by with_unfolding_all rfl) ZLN (unhide ZL) ?_) | (with_reducible refine wpList_store_row (by with_unfolding_all rfl) 83 _ _ (by with_unfolding_all rfl) w33.heap.size XV (by with_unfolding_all rfl) (by with_unfolding_all rfl) 83 ZLN (heap_new w33 _) s8 (unhide SZ8) (unhide XL) ?_; rw [setRow_alloc]))
                                obtain ⟨g26, hg26⟩ : ∃ g, g = w33.heap.size := ⟨_, rfl⟩
                                rw [← hg26] at O4 ⊢
                                clear hg26
                                generalize w33.alloc (.cells XV 83) = w34 at *
                                have O6 := hide ((unhide O4).drew (Has.stay W m A3))
                                clear O4
                                have SS : Hid (w34.drew.cell? ⟨g22, k * 3, none⟩ = some (.int .i64 kk) ∧ w34.drew.rangeAt g26 0 XV.toList ∧ w34.drew.rangeAt g15 (k * 10 + 2) XV.toList) := ⟨(unhide HC0 _ ((unhide O6).at g22 (.cells TV 66) (by simp))).1, fun j u hu => by rw [cell_of_block ((unhide O6).at g26 (.cells XV 83) (by simp)), Nat.zero_add, ← Array.getElem?_toList]; exact hu, unhide RK _ ((unhide O6).at g15 (.cells (waV (waTo S A 49)) 89) (by simp))⟩
                                refine wp_region_noPanic ?_
                                refine wp_region_held_drew (S := fun w' => w'.cell? ⟨g22, k * 3, none⟩ = some (.int .i64 kk) ∧ w'.rangeAt g26 0 XV.toList ∧ w'.rangeAt g15 (k * 10 + 2) XV.toList) (by kernel_rfl) (unhide SS) (fun hHeld => ?_)
                                clear SS RK
                                generalize w34.drew = w35 at *
                                refine take_at 0 169 (v := ?_) rfl rfl (by kernel_rfl) (by kernel_rfl) (by kernel_rfl) (Or.inl ⟨by rfl, ?_⟩) hHeld ?_
                                rotate_left
                                · intro w hSw; go_simp; with_reducible rfl
                                simp only [Act.put, List.setIfInBounds_toArray, List.set_cons_zero, List.set_cons_succ]
                                refine take_at 1 170 (v := .pointer (some ⟨g22, k * 3, none⟩)) rfl rfl (by kernel_rfl) (by kernel_rfl) (by kernel_rfl) (Or.inl ⟨by rfl, ?_⟩) hHeld ?_
                                · intro w hSw
                                  first | (go_simp; done) | (go_simp; rfl) | (simp [execOp, Act.eval]; done)
                                simp only [Act.put, List.setIfInBounds_toArray, List.set_cons_zero, List.set_cons_succ]
                                refine take_at 2 171 (v := .pointer (some ⟨g22, k * 3, none⟩)) rfl rfl (by kernel_rfl) (by kernel_rfl) (by kernel_rfl) (Or.inl ⟨by rfl, ?_⟩) hHeld ?_
                                · intro w hSw
                                  first | (go_simp; done) | (go_simp; rfl) | (simp [execOp, Act.eval]; done)
                                simp only [Act.put, List.setIfInBounds_toArray, List.set_cons_zero, List.set_cons_succ]
                                refine take_at 3 172 (v := ?_) rfl rfl (by kernel_rfl) (by kernel_rfl) (by kernel_rfl) (Or.inl ⟨by rfl, ?_⟩) hHeld ?_
                                rotate_left
                                · intro w hSw; obtain ⟨c1, c2, c3⟩ := hSw; go_simp; with_reducible rfl
                                simp only [Act.put, List.setIfInBounds_toArray, List.set_cons_zero, List.set_cons_succ]
                                refine take_at 4 173 (v := .bool true) rfl rfl (by kernel_rfl) (by kernel_rfl) (by kernel_rfl) (Or.inl ⟨by rfl, ?_⟩) hHeld ?_
                                · intro w hSw
                                  first | (go_simp; done) | (go_simp; simp [hne]; done) | (go_simp; rw [hne]; rfl) | (go_simp; rw [hne2])
                                simp only [Act.put, List.setIfInBounds_toArray, List.set_cons_zero, List.set_cons_succ]
                                refine take_at 5 174 (v := ?_) rfl rfl (by kernel_rfl) (by kernel_rfl) (by kernel_rfl) (Or.inl ⟨by rfl, ?_⟩) hHeld ?_
                                rotate_left
                                · intro w hSw; go_simp; with_reducible rfl
                                simp only [Act.put, List.setIfInBounds_toArray, List.set_cons_zero, List.set_cons_succ]
                                refine take_at 6 175 rfl rfl (by kernel_rfl) (by kernel_rfl) (by kernel_rfl) (yieldsIf_load_mid (by rfl) 83 _ rfl g26 0 rfl XV.toList _ (fun w' h => h.2.1) Tryz.underlying83 rfl s8l) hHeld ?_
                                simp only [Act.put, List.setIfInBounds_toArray, List.set_cons_zero, List.set_cons_succ]
                                refine take_at 7 176 (v := ?_) rfl rfl (by kernel_rfl) (by kernel_rfl) (by kernel_rfl) (Or.inl ⟨by rfl, ?_⟩) hHeld ?_
                                rotate_left
                                · intro w hSw; go_simp; with_reducible rfl
                                simp only [Act.put, List.setIfInBounds_toArray, List.set_cons_zero, List.set_cons_succ]
                                refine take_at 8 177 (v := .pointer (some ⟨g15, k * 10, none⟩)) rfl rfl (by kernel_rfl) (by kernel_rfl) (by kernel_rfl) (Or.inl ⟨by rfl, ?_⟩) hHeld ?_
                                · intro w hSw
                                  first | (go_simp; done) | (go_simp; rfl) | (simp [execOp, Act.eval]; done)
                                simp only [Act.put, List.setIfInBounds_toArray, List.set_cons_zero, List.set_cons_succ]
                                refine take_at 9 178 (v := .pointer (some ⟨g15, k * 10 + 2, none⟩)) rfl rfl (by kernel_rfl) (by kernel_rfl) (by kernel_rfl) (Or.inl ⟨by rfl, ?_⟩) hHeld ?_
                                · intro w hSw
                                  first | (go_simp; done) | (go_simp; rfl) | (simp [execOp, Act.eval]; done)
                                simp only [Act.put, List.setIfInBounds_toArray, List.set_cons_zero, List.set_cons_succ]
                                refine take_at 10 179 rfl rfl (by kernel_rfl) (by kernel_rfl) (by kernel_rfl) (yieldsIf_load_mid (by rfl) 83 _ rfl g15 (k * 10 + 2) rfl XV.toList _ (fun w' h => h.2.2) Tryz.underlying83 rfl s8l) hHeld ?_
                                simp only [Act.put, List.setIfInBounds_toArray, List.set_cons_zero, List.set_cons_succ]
                                refine take_at 11 180 rfl rfl (by kernel_rfl) (by kernel_rfl) (by kernel_rfl) (yieldsIf_neqA (by rfl) 83 _ (.tmp 175) (.tmp 179) rfl XV XV rfl rfl zln_guard true (unhide EQ)) hHeld ?_
                                simp only [Act.put, List.setIfInBounds_toArray, List.set_cons_zero, List.set_cons_succ]
                                refine take_at 12 181 (v := ?_) rfl rfl (by kernel_rfl) (by kernel_rfl) (by kernel_rfl) (Or.inl ⟨by rfl, ?_⟩) hHeld ?_
                                rotate_left
                                · intro w hSw; go_simp; with_reducible rfl
                                simp only [Act.put, List.setIfInBounds_toArray, List.set_cons_zero, List.set_cons_succ]
                                refine wpAnyH_done (by kernel_rfl) ?_ _
                                refine NoPanic.normal ?_
                                clear hHeld
                                have O7 := hide ((unhide O6).less (Has.stay W m A3) (L' := [(g22, .cells TV 66), (g15, .cells (waV (waTo S A 49)) 89)]) (by simp))
                                go_wp2_with fail
                                go_roundw
                                case rel => exact ⟨k + 1, by omega, by go_num, unhide O7⟩
                                case measure => simp [intOf]; omega
                            · have hge : ¬ ((k : Int) < 49) := by omega
                              have KF := hide ((Has.stay W m A3).sz _ _ (unhide HH).st)
                              clear hlk
                              go_wp2_with fail
                              go_ret
                              exact ⟨rfl, (unhide KF).below (Nat.le_refl _) (fun _ h => h.elim)⟩
                      | true =>
                        rw [hon] at CO
                        have hjl2 := hjl hon
                        obtain ⟨p1, p2, p3, l', p4, p5, p6⟩ := (unhide HQ).step (by decide) hon
                        have CS := hide (wstep_any (unhide M) (unhide HH).st p1 p2 p3)
                        have HQ2 := hide p5
                        clear p1 p2 p3 p5 HQ
                        generalize K'.stepE S' A' = er at *
                        generalize K'.stepD S' A' = D2 at *
                        generalize K'.stepS S' A' = S2 at *
                        generalize K'.stepM S' A' = A2 at *
                        generalize K'.stepK S' A' = K2 at *
                        go_wp2_with fail
                        refine (unhide CL).mono ?_
                        rintro e wq ⟨rfl, rfl⟩
                        clear CL
                        go_wp2_with fail
                        refine (unhide CO).mono ?_
                        rintro e wr ⟨rfl, rfl⟩
                        clear CO
                        go_wp2_with fail
                        refine (unhide CS).mono ?_
                        rintro e w9 ⟨rfl, h1, h2⟩
                        have O7 := hide ((unhide HH).call (St' := WHas W m b x (fun A w G => Has W w G m A) S2 A2 K2) h1 h2)
                        clear h1 h2 CS HH
                        go_wp2_with fail
                        go_roundw
                        case rel => exact ⟨j + 1, l', D2, S2, A2, K2, by omega, fun z => by have := p6 z; omega, rfl, by go_num, unhide HQ2, unhide O7⟩
                        case measure => simp [intOf]; omega
          · go_upto_region 15 with fail
            clear h1 h2
            as_aux_lemma =>
              generalize (i : Int) = lasti at *
              have T1 := hide (WHas.stay (unhide M).toMemL b x S A K0)
              have CT := hide (table_obj (unhide HH).st.rep)
              have st := s147_tab S.w
              have Xt := hide (tabV_one S.w)
              have SZt : Hid (ZT.size = (tabV S.w).size) := by show _ = _; rw [← unhide HZT, tabV_size, tabV_size]
              have EQT := hide (fun (w : World) => zequal_tab S.w w)
              generalize hTV : tabV S.w = TV at *
              have HTV := hide hTV
              clear hTV
              go_wp2_with fail
              refine (unhide CT).mono ?_
              rintro e wt2 ⟨rfl, hb⟩
              have O1 := hide (((unhide HH).below (unhide T1) hb).alloc (unhide T1) (.cells TV 66))
              clear hb CT HH
              go_upto_region 16 with (first | (with_reducible refine wpList_allocZ (by with_unfolding_all rfl) 66 (by with_unfolding_all rfl) ZT (unhide Zt) ?_) | (with_reducible refine wpList_store_row (by with_unfolding_all rfl) 66 _ _ (by with_unfolding_all rfl) wt2.heap.size TV (by with_unfolding_all rfl) (by with_unfolding_all rfl) 66 ZT (heap_new wt2 _) st (unhide SZt) (unhide Xt) ?_; rw [setRow_alloc]))
              obtain ⟨g14, hg14⟩ : ∃ g, g = wt2.heap.size := ⟨_, rfl⟩
              rw [← hg14] at O1 ⊢
              clear hg14
              generalize wt2.alloc (.cells TV 66) = wt3 at *
              have O2 := hide ((unhide O1).alloc (unhide T1) (.cells (waV (waTo S A 0)) 89))
              have h10 : g14 < wt3.heap.size := (unhide O1).lt (g14, _) List.mem_cons_self
              have h12 : g12 < wt3.heap.size := (unhide O1).lt (g12, _) (List.mem_cons_of_mem _ List.mem_cons_self)
              have Zw := hide (zero_wa S A)
              have Bw := hide (built_wa S A)
              have sw := s490 (waTo S A 0)
              have Xw := hide (waV0_one S A)
              generalize hWV : waV (waTo S A 0) = WV at *
              clear O1 Zt SZt Xt
              go_upto_region 18 with (first | (with_reducible refine wpList_build0 (by with_unfolding_all rfl) 89 (by with_unfolding_all rfl) WV (unhide Bw) ?_) | (with_reducible refine wpList_allocZ (by with_unfolding_all rfl) 89 (by with_unfolding_all rfl) WV (unhide Zw) ?_) | (with_reducible refine wpList_store_row (by with_unfolding_all rfl) 89 _ _ (by with_unfolding_all rfl) wt3.heap.size WV (by with_unfolding_all rfl) (by with_unfolding_all rfl) 89 WV (heap_new wt3 _) sw rfl (unhide Xw) ?_; rw [setRow_alloc]))
              obtain ⟨g15, hg15⟩ : ∃ g, g = wt3.heap.size := ⟨_, rfl⟩
              rw [← hg15] at O2 h10 h12 ⊢
              clear hg15
              generalize wt3.alloc (.cells WV 89) = w4 at *
              rw [← hWV] at O2
              clear Zw Bw sw Xw hWV
              have hAn : A.n ≤ 1024 := by rw [(unhide HD).n]; decide
              have CG := hide (fun (w' : World) G' (h' : WHas W m b x (fun A w G => Has W w G m A) S A K0 w' G') (z : Int) => h'.call fun G'' h'' => get_any (unhide M).toMemL h'' hAn z)
              go_wp2_with fail
              go_loopw [16] (fun q wq => ∃ k : Nat, k ≤ 49 ∧ q = .int .i64 k ∧ Held W (WHas W m b x (fun A w G => Has W w G m A) S A K0) w3 wq (fun _ => False) [(g15, .cells (waV (waTo S A k)) 89), (g14, .cells TV 66), (g12, .cells TB 66)]) (fun q _ => 49 - (intOf q).toNat)
              case atStart => exact ⟨0, by omega, rfl, unhide O2⟩
              case round =>
                clear O2
                obtain ⟨k, hk, rfl, hh⟩ := hrel
                have HH := hide hh
                clear hh
                by_cases hlk : k < 49
                · have hk49 : (k : Int) < 49 := by omega
                  have CGk := hide (unhide CG _ _ (unhide HH).st (k : Int))
                  have HG : Hid (getT S A (k : Int) = .tuple #[.agg (S.getV A (k : Int)), .int .i64 (S.getE A (k : Int))]) := rfl
                  rw [unhide HG] at CGk
                  have hsz := getV_size S A (k : Int)
                  have s10 : (Tryz.prog.info? 88).map (·.size) = some (S.getV A (k : Int)).size := by rw [hsz]; kernel_rfl
                  have X10 := hide (getV_one S A (k : Int))
                  have NX := hide (waTo_next S A k)
                  generalize S.getE A (k : Int) = er at *
                  have KP := hide (fun (w' : World) (h : w'.heap[g15]? = some (.cells (waV (waTo S A k)) 89 (0, 0))) => wa_put (S.getV A (k : Int)) hsz hlk h)
                  rw [unhide NX] at KP
                  clear HG NX
                  generalize S.getV A (k : Int) = OV at *
                  go_wp2_with fail
                  refine (unhide CGk).mono ?_
                  rintro e w5 ⟨rfl, h1, h2⟩
                  have O3 := hide ((unhide HH).call (St' := WHas W m b x (fun A w G => Has W w G m A) S A K0) h1 h2)
                  clear h1 h2 HH CGk
                  have bk := (unhide O3).at g15 (.cells (waV (waTo S A k)) 89) (by simp)
                  have THB : Hid (w5.there g15 (k * 10) OV.size) := by rw [hsz]; exact wa_there hlk bk
                  have O4 := hide (((unhide O3).turnOwn (unhide T1) g15 (.cells (waV (waTo S A k)) 89) _ (by simp) (keeps_sets OV.toList (k * 10) _ _ (Keeps.refl _ _)) (unhide KP _ bk)).less (unhide T1) (L' := [(g15, .cells (waV (waTo S A (k + 1))) 89), (g14, .cells TV 66), (g12, .cells TB 66)]) (fun p hp => by
                    rcases List.mem_cons.1 hp with rfl | hp
                    · exact List.mem_cons_self
                    · rcases List.mem_cons.1 hp with rfl | hp
                      · exact List.mem_cons_of_mem _ (List.mem_filter.2 ⟨by simp, by simp; omega⟩)
                      · rcases List.mem_cons.1 hp with rfl | hp
                        · exact List.mem_cons_of_mem _ (List.mem_filter.2 ⟨by simp, by simp; omega⟩)
                        · cases hp))
                  clear bk KP O3
                  go_wp2_with (with_reducible refine wpList_store_mid (by with_unfolding_all rfl) 88 _ _ (by with_unfolding_all rfl) g15 (k * 10) OV (by with_unfolding_all rfl) (by with_unfolding_all rfl) (unhide THB) s10 (unhide X10) ?_)
                  go_roundw
                  case rel => exact ⟨k + 1, by omega, by go_num, unhide O4⟩
                  case measure => simp [intOf]; omega
                · have hge : ¬ ((k : Int) < 49) := by omega
                  have ek : k = 49 := by omega
                  rw [ek] at HH
                  clear hlk ek
                  go_upto_region 21 with fail
                  clear hge
                  generalize (k : Int) = lastk at *
                  clear CG
                  have hfu : In64 (kq : Int) := ⟨by omega, by omega⟩
                  obtain ⟨s1, s2, s3⟩ := Pq.start (unhide HD) hi20 (kq : Int) hfu (unhide hKl) (unhide hKs) (unhide hKb)
                  have HQ0 := hide s3
                  have CFu := hide ((unhide HH).st.call fun G' h' => sfuse h' (kq : Int))
                  have CB := hide (fun (w' : World) G' (h' : WHas W m b x (fun A w G => Has W w G m A) S (A.fused (kq : Int)) K0 w' G') => wbegin_any (unhide M) h' 5)
                  rw [s1] at CB
                  generalize hn0 : (K0.beginK S 5).l.length = n0 at s2 s3 HQ0
                  have hn59 : n0 ≤ 59 := s2
                  clear s1 s2 s3 hn0 hfu
                  generalize K0.beginS S 5 = S1 at *
                  generalize K0.beginK S 5 = K1 at *
                  generalize A.fused (kq : Int) = A1 at *
                  go_wp2_with fail
                  refine (unhide CK _).mono ?_
                  rintro e w6 ⟨rfl, rfl⟩
                  go_wp2_with fail
                  refine (unhide CFu).mono ?_
                  rintro e w7 ⟨rfl, h1, h2⟩
                  have O5 := hide ((unhide HH).call (St' := WHas W m b x (fun A w G => Has W w G m A) S A1 K0) h1 h2)
                  clear h1 h2 HH CFu CK
                  go_wp2_with fail
                  refine (unhide CB _ _ (unhide O5).st).mono ?_
                  rintro e w8 ⟨rfl, h1, h2⟩
                  have O6 := hide ((unhide O5).call (St' := WHas W m b x (fun A w G => Has W w G m A) S1 A1 K1) h1 h2)
                  clear h1 h2 O5 CB
                  go_wp2_with fail
                  go_loopw [17, 18] (fun dq q wq => ∃ (j l : Nat) (D : Bool) (S' : Sto) (A' : Mm) (K' : Wk), j ≤ n0 ∧ (A'.on = true → j + l = n0) ∧ dq = .bool D ∧ q = .int .i64 j ∧ Pq 400 S.w wS K0.d (fun i => (A.l (S.w i).l.toNat).has) 5 S' A' K' l D ∧ Held W (WHas W m b x (fun A w G => Has W w G m A) S' A' K') w3 wq (fun _ => False) [(g15, .cells (waV (waTo S A 49)) 89), (g14, .cells TV 66), (g12, .cells TB 66)]) (fun _ q _ => 60 - (intOf q).toNat)
                  case atStart => exact ⟨0, n0, false, S1, A1, K1, by omega, fun _ => by omega, rfl, rfl, unhide HQ0, unhide O6⟩
                  case round =>
                    clear O6 HQ0
                    obtain ⟨j, l, D, S', A', K', hj, hjl, rfl, rfl, hq, hh⟩ := hrel
                    have HH := hide hh
                    have HQ := hide hq
                    clear hh hq
                    have hj60 : (j : Int) < 60 := by omega
                    have CL := hide ((unhide HH).st.left)
                    rw [(unhide HQ).len] at CL
                    have CO := hide ((unhide HH).drop.st.isOn)
                    cases l with
                    | zero =>
                      have hneg : ¬ (((0 : Nat) : Int) > 0) := by decide
                      have HT := hide ((unhide HQ).told (Or.inl rfl) keep)
                      go_wp2_with fail
                      refine (unhide CL).mono ?_
                      rintro e wq ⟨rfl, rfl⟩
                      clear CL CO
                      go_upto_region 28 with fail
                      have OM0 := hide (unhide HH).drop
                      obtain ⟨BT, hok8, hn4'⟩ := unhide HT
                      have hn4 : (A'.crash keep).n = 400 := hn4'
                      have OK1 : Hid (A'.ok 1000) := ok_mono hok8 (by omega)
                      have CC := hide (fun (w' : World) G' (h' : Has W w' G' m A') => h'.crash_arg (unhide OK1) ak keep capk (unhide HKP).2.1 (unhide HKP).2.2 (by
                        rcases (unhide HKP).1 with e | ⟨y, off, e, hy⟩
                        · exact Or.inl e
                        · exact Or.inr ⟨y, off, e, hy⟩))
                      have CF := hide (fun (w' : World) G' (h' : Has W w' G' m (A'.crash keep)) => h'.find (ok_crash (unhide OK1) keep))
                      rw [BT.e] at CF
                      have Z4 : Hid ((Tryz.prog.info? 49).map (·.zero) = some (some (.agg #[.int .i64 0, .int .i64 0, .int .i64 0, .int .i64 0]))) := by show _ = _; kernel_rfl
                      have ZT2 : Hid ((Tryz.prog.info? 66).map (·.zero) = some (some (.agg ZT))) := by show _ = _; rw [← unhide HZT]; exact zero_tab
                      have Z7 : Hid ((Tryz.prog.info? 95).map (·.zero) = some (some (.agg (iv .i64 zs7)))) := hide zero_7z
                      rcases BT.v with ⟨v1, v2, v3, v4⟩ | ⟨d, v1, v2, v4, v5⟩
                      · subst v3
                        rw [v1, v2] at CF
                        have s4 := s4_sup [2, K0.d 7, 0, 1] rfl
                        have X4 := hide (iv_one .i64 [2, K0.d 7, 0, 1])
                        have SZ : Hid ((#[.int .i64 0, .int .i64 0, .int .i64 0, .int .i64 0] : Array Value).size = (iv .i64 [2, K0.d 7, 0, 1]).size) := rfl
                        have K20 : Hid (∀ (w' : World) (g : Nat), w'.heap[g]? = some (.cells (iv .i64 [2, K0.d 7, 0, 1]) 49 (0, 0)) → w'.cell? ⟨g, 0, none⟩ = some (.int .i64 2) ∧ w'.cell? ⟨g, 1, none⟩ = some (.int .i64 (K0.d 7)) ∧ w'.cell? ⟨g, 2, none⟩ = some (.int .i64 0)) := fun w' g h => by
                          refine ⟨?_, ?_, ?_⟩ <;> rw [cell_of_block h] <;> rfl
                        obtain ⟨LD1, LD2⟩ := v4.load (by decide) hn4 rfl
                        have hd7 : (Lit.int .i64 (K0.d 7)).wf = true := by
                          have h := v4.db 7 (by decide)
                          exact wf_i64 (by omega) (by omega)
                        have CX : Hid (∀ (w' : World) (G' : Nat → Prop), Has W w' G' m (A'.crash keep) → Calls Tryz.prog 46 #[.pointer (some ⟨m, 0, none⟩), .int .i64 10, .int .i64 (K0.d 7)] w' fun e w'' => e = .returned (.tuple #[.agg TB, .agg (iv .i64 (ldL (A'.crash keep) 10 (K0.d 7))), .int .i64 0]) ∧ Keeps (fun _ => False) w' w'') := fun w' G' h' => by
                          obtain ⟨F, c, cs, q1, q2, q3, q4⟩ := h'
                          have q := xload_any q1 (by rw [hn4]; decide) (ok_crash (unhide OK1) keep).2.2.1 10 (K0.d 7) hd7
                          rw [LD1, LD2] at q
                          unfold LdPost at q
                          rw [show iv .i64 (rowE 49 wS) = TB from unhide HTB] at q
                          exact q
                        have lL := ldL_len (A'.crash keep) 10 (K0.d 7)
                        have AN3 : Hid ((A'.crash keep).n ≤ 1024) := by show _ ≤ _; rw [hn4]; decide
                        have XtT := hide (tabV_one wS)
                        rw [unhide HTB] at XtT
                        have SZtT : Hid (ZT.size = TB.size) := by show _ = _; rw [← unhide HZT, ← unhide HTB, tabV_size, tabV_size]
                        clear LD1 LD2 hd7 OK1 v1 v2 v4 BT HT HQ
                        generalize ldL (A'.crash keep) 10 (K0.d 7) = LL at *
                        generalize A'.crash keep = A3 at *
                        generalize iv .i64 [2, K0.d 7, 0, 1] = SV at *
                        generalize K0.d 7 = r7 at *
                        go_wp2_with fail
                        refine (unhide CC _ _ (unhide OM0).st).mono ?_
                        rintro e w20 ⟨rfl, h1, h2⟩
                        have OM1 := hide ((unhide OM0).call (St' := fun w G => Has W w G m A3) h1 h2)
                        clear h1 h2 OM0 CC HH
                        go_wp2_with fail
                        refine (unhide CF _ _ (unhide OM1).st).mono ?_
                        rintro e w21 ⟨rfl, h1, h2⟩
                        have OM2 := hide (((unhide OM1).call (St' := fun w G => Has W w G m A3) h1 h2).alloc (Has.stay W m A3) (.cells SV 49))
                        clear h1 h2 OM1 CF
                        go_upto_region 30 with (first | (with_reducible refine wpList_allocZ (by with_unfolding_all rfl) 49 (by with_unfolding_all rfl) #[.int .i64 0, .int .i64 0, .int .i64 0, .int .i64 0] (unhide Z4) ?_) | (with_reducible refine wpList_store_row (by with_unfolding_all rfl) 49 _ _ (by with_unfolding_all rfl) w21.heap.size SV (by with_unfolding_all rfl) (by with_unfolding_all rfl) 49 #[.int .i64 0, .int .i64 0, .int .i64 0, .int .i64 0] (heap_new w21 _) s4 (unhide SZ) (unhide X4) ?_; rw [setRow_alloc]))
                        obtain ⟨g19, hg19⟩ : ∃ g, g = w21.heap.size := ⟨_, rfl⟩
                        rw [← hg19] at OM2 ⊢
                        clear hg19
                        generalize w21.alloc (.cells SV 49) = w22 at *
                        obtain ⟨c0, c1, c2⟩ := unhide K20 w22 g19 ((unhide OM2).at g19 (.cells SV 49) (by simp))
                        clear s4 X4 SZ Z4 c0 c2
                        go_wp2_with fail
                        refine (unhide CX _ _ (unhide OM2).st).mono ?_
                        rintro e w23 ⟨rfl, hk⟩
                        clear c1
                        have OM3 := hide ((unhide OM2).keeps (Has.stay W m A3) hk)
                        clear hk CX OM2
                        have XL := hide (iv_one .i64 LL)
                        have SZL : Hid ((iv .i64 zs7).size = (iv .i64 LL).size) := by show _ = _; rw [iv_size, iv_size, lL]; rfl
                        have s7 : (Tryz.prog.info? 95).map (·.size) = some (iv .i64 LL).size := by rw [iv_size, lL]; kernel_rfl
                        generalize iv .i64 zs7 = ZLV at *
                        generalize iv .i64 LL = LV at *
                        obtain ⟨p1, p2, p3, p4⟩ := (unhide OM3).pair (Has.stay W m A3) ZT TB 66 ZLV LV 95
                        have O7 := hide p1
                        have H8 := hide p2
                        have H9 := hide p3
                        have H9' : Hid ((((w23.alloc (.cells ZT 66)).alloc (.cells ZLV 95)).setRow w23.heap.size TB).heap[(w23.alloc (.cells ZT 66)).heap.size]? = some (.cells ZLV 95 (0, 0))) := by show _ = _; rw [p4]; exact p3
                        have E9 := hide p4
                        clear OM3 p1 p2 p3 p4 lL
                        go_upto_region 31 with (first | (with_reducible refine wpList_allocZ (by with_unfolding_all rfl) 66 (by with_unfolding_all rfl) ZT (unhide ZT2) ?_) | (with_reducible refine wpList_allocZ (by with_unfolding_all rfl) 95 (by with_unfolding_all rfl) ZLV (unhide Z7) ?_) | (with_reducible refine wpList_store_row (by with_unfolding_all rfl) 66 _ _ (by with_unfolding_all rfl) w23.heap.size TB (by with_unfolding_all rfl) (by with_unfolding_all rfl) 66 ZT (unhide H8) stb (unhide SZtT) (unhide XtT) ?_) | (with_reducible refine wpList_store_row (by with_unfolding_all rfl) 95 _ _ (by with_unfolding_all rfl) (w23.heap.size + 1) LV (by with_unfolding_all rfl) (by with_unfolding_all rfl) 95 ZLV (unhide H9) s7 (unhide SZL) (unhide XL) ?_) | (with_reducible refine wpList_store_row (by with_unfolding_all rfl) 95 _ _ (by with_unfolding_all rfl) (w23.alloc (.cells ZT 66)).heap.size LV (by with_unfolding_all rfl) (by with_unfolding_all rfl) 95 ZLV (unhide H9') s7 (unhide SZL) (unhide XL) ?_))
                        try rw [unhide E9]
                        clear H8 H9 H9' E9 ZT2 Z7 XtT XL SZtT SZL s7
                        obtain ⟨g22, hg22⟩ : ∃ g, g = w23.heap.size := ⟨_, rfl⟩
                        rw [← hg22] at O7 ⊢
                        clear hg22
                        generalize (((w23.alloc (.cells ZT 66)).alloc (.cells ZLV 95)).setRow g22 TB).setRow (g22 + 1) LV = w24 at *
                        have OM4 := hide ((unhide O7).less (Has.stay W m A3) (L' := [(g22, .cells TB 66), (g19, .cells SV 49), (g15, .cells (waV (waTo S A 49)) 89), (g14, .cells TV 66), (g12, .cells TB 66)]) (by simp))
                        clear O7
                        obtain ⟨c0, c1, c2⟩ := unhide K20 w24 g19 ((unhide OM4).at g19 (.cells SV 49) (by simp))
                        have G22 := hide ((unhide OM4).at g22 (.cells TB 66) (by simp))
                        have G14 := hide ((unhide OM4).at g14 (.cells TV 66) (by simp))
                        have G12 := hide ((unhide OM4).at g12 (.cells TB 66) (by simp))
                        have KF := hide ((Has.stay W m A3).sz _ _ (unhide OM4).st)
                        go_wp2_with (first | (with_reducible refine wpList_load_row_g (by with_unfolding_all rfl) 66 (.tmp 22) (by with_unfolding_all rfl) g22 (by with_unfolding_all rfl) _ _ _ _ (unhide G22) Tryz.underlying66 (by with_unfolding_all rfl) stb ?_) | (with_reducible refine wpList_load_row_g (by with_unfolding_all rfl) 66 (.tmp 12) (by with_unfolding_all rfl) g12 (by with_unfolding_all rfl) _ _ _ _ (unhide G12) Tryz.underlying66 (by with_unfolding_all rfl) stb ?_) | (with_reducible refine wpList_eqlA (by with_unfolding_all rfl) 66 _ (.tmp 139) (.tmp 140) (by with_unfolding_all rfl) TB TB (by with_unfolding_all rfl) (by with_unfolding_all rfl) ztab_guard true (unhide EQB) ?_))
                        go_ret
                        exact ⟨rfl, (unhide KF).below (Nat.le_refl _) (fun _ h => h.elim)⟩
                      · skip
                        rw [v1, v2] at CF
                        have s4 := s4_sup [3, d 7, 5, 1] rfl
                        have X4 := hide (iv_one .i64 [3, d 7, 5, 1])
                        have SZ : Hid ((#[.int .i64 0, .int .i64 0, .int .i64 0, .int .i64 0] : Array Value).size = (iv .i64 [3, d 7, 5, 1]).size) := rfl
                        have K20 : Hid (∀ (w' : World) (g : Nat), w'.heap[g]? = some (.cells (iv .i64 [3, d 7, 5, 1]) 49 (0, 0)) → w'.cell? ⟨g, 0, none⟩ = some (.int .i64 3) ∧ w'.cell? ⟨g, 1, none⟩ = some (.int .i64 (d 7)) ∧ w'.cell? ⟨g, 2, none⟩ = some (.int .i64 5)) := fun w' g h => by
                          refine ⟨?_, ?_, ?_⟩ <;> rw [cell_of_block h] <;> rfl
                        obtain ⟨LD1, LD2⟩ := v4.load (by decide) hn4 rfl
                        have hd7 : (Lit.int .i64 (d 7)).wf = true := by
                          have h := v4.db 7 (by decide)
                          exact wf_i64 (by omega) (by omega)
                        have CX : Hid (∀ (w' : World) (G' : Nat → Prop), Has W w' G' m (A'.crash keep) → Calls Tryz.prog 46 #[.pointer (some ⟨m, 0, none⟩), .int .i64 10, .int .i64 (d 7)] w' fun e w'' => e = .returned (.tuple #[.agg TV, .agg (iv .i64 (ldL (A'.crash keep) 10 (d 7))), .int .i64 0]) ∧ Keeps (fun _ => False) w' w'') := fun w' G' h' => by
                          obtain ⟨F, c, cs, q1, q2, q3, q4⟩ := h'
                          have q := xload_any q1 (by rw [hn4]; decide) (ok_crash (unhide OK1) keep).2.2.1 10 (d 7) hd7
                          rw [LD1, LD2] at q
                          unfold LdPost at q
                          rw [show iv .i64 (rowE 49 S.w) = TV from unhide HTV] at q
                          exact q
                        have lL := ldL_len (A'.crash keep) 10 (d 7)
                        have AN3 : Hid ((A'.crash keep).n ≤ 1024) := by show _ ≤ _; rw [hn4]; decide
                        have XtT := hide (tabV_one S.w)
                        rw [unhide HTV] at XtT
                        have SZtT : Hid (ZT.size = TV.size) := by show _ = _; rw [← unhide HZT, ← unhide HTV, tabV_size, tabV_size]
                        have LNS : Hid (∀ k : Nat, k < 49 → (S.w k).k ≠ 0 → lnV ((A'.crash keep).hasZ (S.w k).l) = lnV (A.hasZ (S.line (k : Int))) ∧ S.getE A (k : Int) = 0) := fun k hk h0 => by
                          obtain ⟨g1, g2⟩ := get_there (unhide HD).good (unhide HD).calm (unhide HD).n hk h0
                          refine ⟨?_, g1⟩
                          rw [g2]
                          refine lnV_same fun j hj => ?_
                          have hz : (A'.crash keep).isZ (S.w k).l := by
                            have := v4.te k hk h0
                            show 0 ≤ (S.w k).l ∧ (S.w k).l < (A'.crash keep).n
                            rw [hn4]
                            omega
                          unfold Mm.hasZ
                          rw [if_pos ⟨hz, rfl⟩]
                          exact (v5 k hk h0).hs j hj
                        have TC : Hid (∀ k : Nat, k < 49 → TV[3 * k]? = some (.int .i64 (S.w k).k) ∧ TV[3 * k + 2]? = some (.int .i64 (S.w k).l)) := fun k hk => by
                          rw [← show tabV S.w = TV from unhide HTV, tabV_cell _ _ (by omega), tabV_cell _ _ (by omega)]
                          unfold fl3
                          refine ⟨?_, ?_⟩
                          · rw [show 3 * k / 3 = k by omega, show 3 * k % 3 = 0 by omega]; rfl
                          · rw [show (3 * k + 2) / 3 = k by omega, show (3 * k + 2) % 3 = 2 by omega]; rfl
                        clear LD1 LD2 hd7 OK1 v1 v2 v4 v5 BT HT HQ
                        generalize ldL (A'.crash keep) 10 (d 7) = LL at *
                        generalize A'.crash keep = A3 at *
                        generalize iv .i64 [3, d 7, 5, 1] = SV at *
                        generalize d 7 = r7 at *
                        go_wp2_with fail
                        refine (unhide CC _ _ (unhide OM0).st).mono ?_
                        rintro e w20 ⟨rfl, h1, h2⟩
                        have OM1 := hide ((unhide OM0).call (St' := fun w G => Has W w G m A3) h1 h2)
                        clear h1 h2 OM0 CC HH
                        go_wp2_with fail
                        refine (unhide CF _ _ (unhide OM1).st).mono ?_
                        rintro e w21 ⟨rfl, h1, h2⟩
                        have OM2 := hide (((unhide OM1).call (St' := fun w G => Has W w G m A3) h1 h2).alloc (Has.stay W m A3) (.cells SV 49))
                        clear h1 h2 OM1 CF
                        go_upto_region 30 with (first | (with_reducible refine wpList_allocZ (by with_unfolding_all rfl) 49 (by with_unfolding_all rfl) #[.int .i64 0, .int .i64 0, .int .i64 0, .int .i64 0] (unhide Z4) ?_) | (with_reducible refine wpList_store_row (by with_unfolding_all rfl) 49 _ _ (by with_unfolding_all rfl) w21.heap.size SV (by with_unfolding_all rfl) (by with_unfolding_all rfl) 49 #[.int .i64 0, .int .i64 0, .int .i64 0, .int .i64 0] (heap_new w21 _) s4 (unhide SZ) (unhide X4) ?_; rw [setRow_alloc]))
                        obtain ⟨g19, hg19⟩ : ∃ g, g = w21.heap.size := ⟨_, rfl⟩
                        rw [← hg19] at OM2 ⊢
                        clear hg19
                        generalize w21.alloc (.cells SV 49) = w22 at *
                        obtain ⟨c0, c1, c2⟩ := unhide K20 w22 g19 ((unhide OM2).at g19 (.cells SV 49) (by simp))
                        clear s4 X4 SZ Z4 c0 c2
                        go_wp2_with fail
                        refine (unhide CX _ _ (unhide OM2).st).mono ?_
                        rintro e w23 ⟨rfl, hk⟩
                        clear c1
                        have OM3 := hide ((unhide OM2).keeps (Has.stay W m A3) hk)
                        clear hk CX OM2
                        have XL := hide (iv_one .i64 LL)
                        have SZL : Hid ((iv .i64 zs7).size = (iv .i64 LL).size) := by show _ = _; rw [iv_size, iv_size, lL]; rfl
                        have s7 : (Tryz.prog.info? 95).map (·.size) = some (iv .i64 LL).size := by rw [iv_size, lL]; kernel_rfl
                        generalize iv .i64 zs7 = ZLV at *
                        generalize iv .i64 LL = LV at *
                        obtain ⟨p1, p2, p3, p4⟩ := (unhide OM3).pair (Has.stay W m A3) ZT TV 66 ZLV LV 95
                        have O7 := hide p1
                        have H8 := hide p2
                        have H9 := hide p3
                        have H9' : Hid ((((w23.alloc (.cells ZT 66)).alloc (.cells ZLV 95)).setRow w23.heap.size TV).heap[(w23.alloc (.cells ZT 66)).heap.size]? = some (.cells ZLV 95 (0, 0))) := by show _ = _; rw [p4]; exact p3
                        have E9 := hide p4
                        clear OM3 p1 p2 p3 p4 lL
                        go_upto_region 31 with (first | (with_reducible refine wpList_allocZ (by with_unfolding_all rfl) 66 (by with_unfolding_all rfl) ZT (unhide ZT2) ?_) | (with_reducible refine wpList_allocZ (by with_unfolding_all rfl) 95 (by with_unfolding_all rfl) ZLV (unhide Z7) ?_) | (with_reducible refine wpList_store_row (by with_unfolding_all rfl) 66 _ _ (by with_unfolding_all rfl) w23.heap.size TV (by with_unfolding_all rfl) (by with_unfolding_all rfl) 66 ZT (unhide H8) st (unhide SZtT) (unhide XtT) ?_) | (with_reducible refine wpList_store_row (by with_unfolding_all rfl) 95 _ _ (by with_unfolding_all rfl) (w23.heap.size + 1) LV (by with_unfolding_all rfl) (by with_unfolding_all rfl) 95 ZLV (unhide H9) s7 (unhide SZL) (unhide XL) ?_) | (with_reducible refine wpList_store_row (by with_unfolding_all rfl) 95 _ _ (by with_unfolding_all rfl) (w23.alloc (.cells ZT 66)).heap.size LV (by with_unfolding_all rfl) (by with_unfolding_all rfl) 95 ZLV (unhide H9') s7 (unhide SZL) (unhide XL) ?_))
                        try rw [unhide E9]
                        clear H8 H9 H9' E9 ZT2 Z7 XtT XL SZtT SZL s7
                        obtain ⟨g22, hg22⟩ : ∃ g, g = w23.heap.size := ⟨_, rfl⟩
                        rw [← hg22] at O7 ⊢
                        clear hg22
                        generalize (((w23.alloc (.cells ZT 66)).alloc (.cells ZLV 95)).setRow g22 TV).setRow (g22 + 1) LV = w24 at *
                        have OM4 := hide ((unhide O7).less (Has.stay W m A3) (L' := [(g22, .cells TV 66), (g19, .cells SV 49), (g15, .cells (waV (waTo S A 49)) 89), (g14, .cells TV 66), (g12, .cells TB 66)]) (by simp))
                        clear O7
                        obtain ⟨c0, c1, c2⟩ := unhide K20 w24 g19 ((unhide OM4).at g19 (.cells SV 49) (by simp))
                        have G22 := hide ((unhide OM4).at g22 (.cells TV 66) (by simp))
                        have G14 := hide ((unhide OM4).at g14 (.cells TV 66) (by simp))
                        have G12 := hide ((unhide OM4).at g12 (.cells TB 66) (by simp))
                        go_wp2_with (first | (with_reducible refine wpList_load_row_g (by with_unfolding_all rfl) 66 (.tmp 22) (by with_unfolding_all rfl) g22 (by with_unfolding_all rfl) _ _ _ _ (unhide G22) Tryz.underlying66 (by with_unfolding_all rfl) st ?_) | (with_reducible refine wpList_load_row_g (by with_unfolding_all rfl) 66 (.tmp 14) (by with_unfolding_all rfl) g14 (by with_unfolding_all rfl) _ _ _ _ (unhide G14) Tryz.underlying66 (by with_unfolding_all rfl) st ?_) | (with_reducible refine wpList_neqA (by with_unfolding_all rfl) 66 _ (.tmp 147) (.tmp 148) (by with_unfolding_all rfl) TV TV (by with_unfolding_all rfl) (by with_unfolding_all rfl) ztab_guard true (unhide EQT) ?_))
                        clear G22 G14 G12 c0 c1 c2 K20
                        have OM5 : Hid (Held W (fun w G => Has W w G m A3) w24 w24 (fun _ => False) [(g22, .cells TV 66), (g15, .cells (waV (waTo S A 49)) 89)]) := ⟨((unhide OM4).less (Has.stay W m A3) (by simp)).1, ((unhide OM4).less (Has.stay W m A3) (by simp)).2.1, fun _ h => h.elim⟩
                        clear OM4
                        go_loopw [25, 26, 27] (fun q _ _ wq => ∃ k : Nat, k ≤ 49 ∧ q = .int .i64 k ∧ Held W (fun w G => Has W w G m A3) w24 wq (fun _ => False) [(g22, .cells TV 66), (g15, .cells (waV (waTo S A 49)) 89)]) (fun q _ _ _ => 49 - (intOf q).toNat)
                        case atStart => exact ⟨0, by omega, rfl, unhide OM5⟩
                        case round =>
                          clear OM5
                          obtain ⟨k, hk, rfl, hh⟩ := hrel
                          have HH := hide hh
                          clear hh
                          by_cases hlk : k < 49
                          · have hk49 : (k : Int) < 49 := by omega
                            obtain ⟨t0, t2⟩ := unhide TC k hlk
                            have HC0 : Hid (∀ w' : World, w'.heap[g22]? = some (.cells TV 66 (0, 0)) → w'.cell? ⟨g22, k * 3, none⟩ = some (.int .i64 (S.w k).k) ∧ w'.cell? ⟨g22, k * 3 + 2, none⟩ = some (.int .i64 (S.w k).l)) := fun w' h => by rw [cell_of_block h, cell_of_block h, Nat.mul_comm k 3]; exact ⟨t0, t2⟩
                            clear t0 t2
                            have CL := hide ((unhide HH).st.loadZ (unhide AN3) (S.w k).l)
                            have ZL := hide zero_lnz
                            have L8 := lnV_size (A3.hasZ (S.w k).l)
                            have XL := hide (lnV_one (A3.hasZ (S.w k).l))
                            have s8 : (Tryz.prog.info? 83).map (·.size) = some (lnV (A3.hasZ (S.w k).l)).size := by rw [L8]; kernel_rfl
                            have SZ8 : Hid ((lnV fun _ => 0).size = (lnV (A3.hasZ (S.w k).l)).size) := by show _ = _; rw [L8, lnV_size]
                            clear L8
                            generalize (lnV fun _ => 0) = ZLN at *
                            by_cases h0 : (S.w k).k = 0
                            · rw [h0] at HC0
                              generalize lnV (A3.hasZ (S.w k).l) = XV at *
                              generalize A3.loadE (S.w k).l = le at *
                              generalize (S.w k).l = ly at *
                              obtain ⟨c0, c2⟩ := unhide HC0 _ ((unhide HH).at g22 (.cells TV 66) (by simp))
                              go_wp2_with fail
                              refine (unhide CL).mono ?_
                              rintro e w33 ⟨rfl, h1, h2⟩
                              clear c0 c2
                              have O4 := hide (((unhide HH).call (St' := fun w G => Has W w G m A3) h1 h2).alloc (Has.stay W m A3) (.cells XV 83))
                              clear h1 h2 HH CL
                              go_upto_region 41 with (first | (with_reducible refine wpList_allocZ (by with_unfolding_all rfl) 83 (by with_unfolding_all rfl) ZLN (unhide ZL) ?_) | (with_reducible refine wpList_store_row (by with_unfolding_all rfl) 83 _ _ (by with_unfolding_all rfl) w33.heap.size XV (by with_unfolding_all rfl) (by with_unfolding_all rfl) 83 ZLN (heap_new w33 _) s8 (unhide SZ8) (unhide XL) ?_; rw [setRow_alloc]))
                              obtain ⟨g26, hg26⟩ : ∃ g, g = w33.heap.size := ⟨_, rfl⟩
                              rw [← hg26] at O4 ⊢
                              clear hg26
                              generalize w33.alloc (.cells XV 83) = w34 at *
                              have O6 := hide ((unhide O4).drew (Has.stay W m A3))
                              clear O4
                              have SS : Hid (w34.drew.cell? ⟨g22, k * 3, none⟩ = some (.int .i64 0)) := (unhide HC0 _ ((unhide O6).at g22 (.cells TV 66) (by simp))).1
                              refine wp_region_noPanic ?_
                              refine wp_region_held_drew (S := fun w' => w'.cell? ⟨g22, k * 3, none⟩ = some (.int .i64 0)) (by kernel_rfl) (unhide SS) (fun hHeld => ?_)
                              clear SS
                              generalize w34.drew = w35 at *
                              refine take_at 0 169 (v := ?_) rfl rfl (by kernel_rfl) (by kernel_rfl) (by kernel_rfl) (Or.inl ⟨by rfl, ?_⟩) hHeld ?_
                              rotate_left
                              · intro w hSw; go_simp; with_reducible rfl
                              simp only [Act.put, List.setIfInBounds_toArray, List.set_cons_zero, List.set_cons_succ]
                              refine take_at 1 170 (v := .pointer (some ⟨g22, k * 3, none⟩)) rfl rfl (by kernel_rfl) (by kernel_rfl) (by kernel_rfl) (Or.inl ⟨by rfl, ?_⟩) hHeld ?_
                              · intro w hSw
                                first | (go_simp; done) | (go_simp; rfl) | (simp [execOp, Act.eval]; done)
                              simp only [Act.put, List.setIfInBounds_toArray, List.set_cons_zero, List.set_cons_succ]
                              refine take_at 2 171 (v := .pointer (some ⟨g22, k * 3, none⟩)) rfl rfl (by kernel_rfl) (by kernel_rfl) (by kernel_rfl) (Or.inl ⟨by rfl, ?_⟩) hHeld ?_
                              · intro w hSw
                                first | (go_simp; done) | (go_simp; rfl) | (simp [execOp, Act.eval]; done)
                              simp only [Act.put, List.setIfInBounds_toArray, List.set_cons_zero, List.set_cons_succ]
                              refine take_at 3 172 (v := ?_) rfl rfl (by kernel_rfl) (by kernel_rfl) (by kernel_rfl) (Or.inl ⟨by rfl, ?_⟩) hHeld ?_
                              rotate_left
                              · intro w hSw; go_simp; with_reducible rfl
                              simp only [Act.put, List.setIfInBounds_toArray, List.set_cons_zero, List.set_cons_succ]
                              refine take_at 4 173 (v := ?_) rfl rfl (by kernel_rfl) (by kernel_rfl) (by kernel_rfl) (Or.inl ⟨by rfl, ?_⟩) hHeld ?_
                              rotate_left
                              · intro w hSw; go_simp; with_reducible rfl
                              simp only [Act.put, List.setIfInBounds_toArray, List.set_cons_zero, List.set_cons_succ]
                              refine take_at 5 174 (v := ?_) rfl rfl (by kernel_rfl) (by kernel_rfl) (by kernel_rfl) (Or.inl ⟨by rfl, ?_⟩) hHeld ?_
                              rotate_left
                              · intro w hSw; go_simp; with_reducible rfl
                              simp only [Act.put, List.setIfInBounds_toArray, List.set_cons_zero, List.set_cons_succ]
                              refine take_at 6 175 rfl rfl (by kernel_rfl) (by kernel_rfl) (by kernel_rfl) (Or.inr ⟨by rfl, rfl⟩) hHeld ?_
                              simp only [Act.put, List.setIfInBounds_toArray, List.set_cons_zero, List.set_cons_succ]
                              refine take_at 7 176 rfl rfl (by kernel_rfl) (by kernel_rfl) (by kernel_rfl) (Or.inr ⟨by rfl, rfl⟩) hHeld ?_
                              simp only [Act.put, List.setIfInBounds_toArray, List.set_cons_zero, List.set_cons_succ]
                              refine take_at 8 177 rfl rfl (by kernel_rfl) (by kernel_rfl) (by kernel_rfl) (Or.inr ⟨by rfl, rfl⟩) hHeld ?_
                              simp only [Act.put, List.setIfInBounds_toArray, List.set_cons_zero, List.set_cons_succ]
                              refine take_at 9 178 rfl rfl (by kernel_rfl) (by kernel_rfl) (by kernel_rfl) (Or.inr ⟨by rfl, rfl⟩) hHeld ?_
                              simp only [Act.put, List.setIfInBounds_toArray, List.set_cons_zero, List.set_cons_succ]
                              refine take_at 10 179 rfl rfl (by kernel_rfl) (by kernel_rfl) (by kernel_rfl) (Or.inr ⟨by rfl, rfl⟩) hHeld ?_
                              simp only [Act.put, List.setIfInBounds_toArray, List.set_cons_zero, List.set_cons_succ]
                              refine take_at 11 180 rfl rfl (by kernel_rfl) (by kernel_rfl) (by kernel_rfl) (Or.inr ⟨by rfl, rfl⟩) hHeld ?_
                              simp only [Act.put, List.setIfInBounds_toArray, List.set_cons_zero, List.set_cons_succ]
                              refine take_at 12 181 (v := ?_) rfl rfl (by kernel_rfl) (by kernel_rfl) (by kernel_rfl) (Or.inl ⟨by rfl, ?_⟩) hHeld ?_
                              rotate_left
                              · intro w hSw; go_simp; with_reducible rfl
                              simp only [Act.put, List.setIfInBounds_toArray, List.set_cons_zero, List.set_cons_succ]
                              refine wpAnyH_done (by kernel_rfl) ?_ _
                              refine NoPanic.normal ?_
                              clear hHeld
                              have O7 := hide ((unhide O6).less (Has.stay W m A3) (L' := [(g22, .cells TV 66), (g15, .cells (waV (waTo S A 49)) 89)]) (by simp))
                              go_wp2_with fail
                              go_roundw
                              case rel => exact ⟨k + 1, by omega, by go_num, unhide O7⟩
                              case measure => simp [intOf]; omega
                            · obtain ⟨q2, q3⟩ := unhide LNS k hlk h0
                              have RK : Hid (∀ w' : World, w'.heap[g15]? = some (.cells (waV (waTo S A 49)) 89 (0, 0)) → w'.rangeAt g15 (k * 10 + 2) (lnV (A.hasZ (S.line (k : Int)))).toList) := fun w' h => wa_line hlk q3 h
                              have EQ := hide (fun (w : World) => zequal_ln 9998 (A.hasZ (S.line (k : Int))) w)
                              rw [q2] at CL
                              rw [q2] at s8 XL SZ8
                              have hne : ((S.w k).k == 0) = false := by simpa using h0
                              have hne2 : ((S.w k).k != 0) = true := by simpa using h0
                              clear q2 q3
                              generalize lnV (A.hasZ (S.line (k : Int))) = XV at *
                              generalize A3.loadE (S.w k).l = le at *
                              generalize (S.w k).k = kk at *
                              generalize (S.w k).l = ly at *
                              have s8l : (Tryz.prog.info? 83).map (·.size) = some XV.toList.length := by rw [Array.length_toList]; exact s8
                              obtain ⟨c0, c2⟩ := unhide HC0 _ ((unhide HH).at g22 (.cells TV 66) (by simp))
                              go_wp2_with fail
                              refine (unhide CL).mono ?_
                              rintro e w33 ⟨rfl, h1, h2⟩
                              clear c0 c2
                              have O4 := hide (((unhide HH).call (St' := fun w G => Has W w G m A3) h1 h2).alloc (Has.stay W m A3) (.cells XV 83))
                              clear h1 h2 HH CL
                              go_upto_region 41 with (first | (with_reducible refine wpList_allocZ (by with_unfolding_all rfl) 83 (by with_unfolding_all rfl) ZLN (unhide ZL) ?_) | (with_reducible refine wpList_store_row (by with_unfolding_all rfl) 83 _ _ (by with_unfolding_all rfl) w33.heap.size XV (by with_unfolding_all rfl) (by with_unfolding_all rfl) 83 ZLN (heap_new w33 _) s8 (unhide SZ8) (unhide XL) ?_; rw [setRow_alloc]))
                              obtain ⟨g26, hg26⟩ : ∃ g, g = w33.heap.size := ⟨_, rfl⟩
                              rw [← hg26] at O4 ⊢
                              clear hg26
                              generalize w33.alloc (.cells XV 83) = w34 at *
                              have O6 := hide ((unhide O4).drew (Has.stay W m A3))
                              clear O4
                              have SS : Hid (w34.drew.cell? ⟨g22, k * 3, none⟩ = some (.int .i64 kk) ∧ w34.drew.rangeAt g26 0 XV.toList ∧ w34.drew.rangeAt g15 (k * 10 + 2) XV.toList) := ⟨(unhide HC0 _ ((unhide O6).at g22 (.cells TV 66) (by simp))).1, fun j u hu => by rw [cell_of_block ((unhide O6).at g26 (.cells XV 83) (by simp)), Nat.zero_add, ← Array.getElem?_toList]; exact hu, unhide RK _ ((unhide O6).at g15 (.cells (waV (waTo S A 49)) 89) (by simp))⟩
                              refine wp_region_noPanic ?_
                              refine wp_region_held_drew (S := fun w' => w'.cell? ⟨g22, k * 3, none⟩ = some (.int .i64 kk) ∧ w'.rangeAt g26 0 XV.toList ∧ w'.rangeAt g15 (k * 10 + 2) XV.toList) (by kernel_rfl) (unhide SS) (fun hHeld => ?_)
                              clear SS RK
                              generalize w34.drew = w35 at *
                              refine take_at 0 169 (v := ?_) rfl rfl (by kernel_rfl) (by kernel_rfl) (by kernel_rfl) (Or.inl ⟨by rfl, ?_⟩) hHeld ?_
                              rotate_left
                              · intro w hSw; go_simp; with_reducible rfl
                              simp only [Act.put, List.setIfInBounds_toArray, List.set_cons_zero, List.set_cons_succ]
                              refine take_at 1 170 (v := .pointer (some ⟨g22, k * 3, none⟩)) rfl rfl (by kernel_rfl) (by kernel_rfl) (by kernel_rfl) (Or.inl ⟨by rfl, ?_⟩) hHeld ?_
                              · intro w hSw
                                first | (go_simp; done) | (go_simp; rfl) | (simp [execOp, Act.eval]; done)
                              simp only [Act.put, List.setIfInBounds_toArray, List.set_cons_zero, List.set_cons_succ]
                              refine take_at 2 171 (v := .pointer (some ⟨g22, k * 3, none⟩)) rfl rfl (by kernel_rfl) (by kernel_rfl) (by kernel_rfl) (Or.inl ⟨by rfl, ?_⟩) hHeld ?_
                              · intro w hSw
                                first | (go_simp; done) | (go_simp; rfl) | (simp [execOp, Act.eval]; done)
                              simp only [Act.put, List.setIfInBounds_toArray, List.set_cons_zero, List.set_cons_succ]
                              refine take_at 3 172 (v := ?_) rfl rfl (by kernel_rfl) (by kernel_rfl) (by kernel_rfl) (Or.inl ⟨by rfl, ?_⟩) hHeld ?_
                              rotate_left
                              · intro w hSw; obtain ⟨c1, c2, c3⟩ := hSw; go_simp; with_reducible rfl
                              simp only [Act.put, List.setIfInBounds_toArray, List.set_cons_zero, List.set_cons_succ]
                              refine take_at 4 173 (v := .bool true) rfl rfl (by kernel_rfl) (by kernel_rfl) (by kernel_rfl) (Or.inl ⟨by rfl, ?_⟩) hHeld ?_
                              · intro w hSw
                                first | (go_simp; done) | (go_simp; simp [hne]; done) | (go_simp; rw [hne]; rfl) | (go_simp; rw [hne2])
                              simp only [Act.put, List.setIfInBounds_toArray, List.set_cons_zero, List.set_cons_succ]
                              refine take_at 5 174 (v := ?_) rfl rfl (by kernel_rfl) (by kernel_rfl) (by kernel_rfl) (Or.inl ⟨by rfl, ?_⟩) hHeld ?_
                              rotate_left
                              · intro w hSw; go_simp; with_reducible rfl
                              simp only [Act.put, List.setIfInBounds_toArray, List.set_cons_zero, List.set_cons_succ]
                              refine take_at 6 175 rfl rfl (by kernel_rfl) (by kernel_rfl) (by kernel_rfl) (yieldsIf_load_mid (by rfl) 83 _ rfl g26 0 rfl XV.toList _ (fun w' h => h.2.1) Tryz.underlying83 rfl s8l) hHeld ?_
                              simp only [Act.put, List.setIfInBounds_toArray, List.set_cons_zero, List.set_cons_succ]
                              refine take_at 7 176 (v := ?_) rfl rfl (by kernel_rfl) (by kernel_rfl) (by kernel_rfl) (Or.inl ⟨by rfl, ?_⟩) hHeld ?_
                              rotate_left
                              · intro w hSw; go_simp; with_reducible rfl
                              simp only [Act.put, List.setIfInBounds_toArray, List.set_cons_zero, List.set_cons_succ]
                              refine take_at 8 177 (v := .pointer (some ⟨g15, k * 10, none⟩)) rfl rfl (by kernel_rfl) (by kernel_rfl) (by kernel_rfl) (Or.inl ⟨by rfl, ?_⟩) hHeld ?_
                              · intro w hSw
                                first | (go_simp; done) | (go_simp; rfl) | (simp [execOp, Act.eval]; done)
                              simp only [Act.put, List.setIfInBounds_toArray, List.set_cons_zero, List.set_cons_succ]
                              refine take_at 9 178 (v := .pointer (some ⟨g15, k * 10 + 2, none⟩)) rfl rfl (by kernel_rfl) (by kernel_rfl) (by kernel_rfl) (Or.inl ⟨by rfl, ?_⟩) hHeld ?_
                              · intro w hSw
                                first | (go_simp; done) | (go_simp; rfl) | (simp [execOp, Act.eval]; done)
                              simp only [Act.put, List.setIfInBounds_toArray, List.set_cons_zero, List.set_cons_succ]
                              refine take_at 10 179 rfl rfl (by kernel_rfl) (by kernel_rfl) (by kernel_rfl) (yieldsIf_load_mid (by rfl) 83 _ rfl g15 (k * 10 + 2) rfl XV.toList _ (fun w' h => h.2.2) Tryz.underlying83 rfl s8l) hHeld ?_
                              simp only [Act.put, List.setIfInBounds_toArray, List.set_cons_zero, List.set_cons_succ]
                              refine take_at 11 180 rfl rfl (by kernel_rfl) (by kernel_rfl) (by kernel_rfl) (yieldsIf_neqA (by rfl) 83 _ (.tmp 175) (.tmp 179) rfl XV XV rfl rfl zln_guard true (unhide EQ)) hHeld ?_
                              simp only [Act.put, List.setIfInBounds_toArray, List.set_cons_zero, List.set_cons_succ]
                              refine take_at 12 181 (v := ?_) rfl rfl (by kernel_rfl) (by kernel_rfl) (by kernel_rfl) (Or.inl ⟨by rfl, ?_⟩) hHeld ?_
                              rotate_left
                              · intro w hSw; go_simp; with_reducible rfl
                              simp only [Act.put, List.setIfInBounds_toArray, List.set_cons_zero, List.set_cons_succ]
                              refine wpAnyH_done (by kernel_rfl) ?_ _
                              refine NoPanic.normal ?_
                              clear hHeld
                              have O7 := hide ((unhide O6).less (Has.stay W m A3) (L' := [(g22, .cells TV 66), (g15, .cells (waV (waTo S A 49)) 89)]) (by simp))
                              go_wp2_with fail
                              go_roundw
                              case rel => exact ⟨k + 1, by omega, by go_num, unhide O7⟩
                              case measure => simp [intOf]; omega
                          · have hge : ¬ ((k : Int) < 49) := by omega
                            have KF := hide ((Has.stay W m A3).sz _ _ (unhide HH).st)
                            clear hlk
                            go_wp2_with fail
                            go_ret
                            exact ⟨rfl, (unhide KF).below (Nat.le_refl _) (fun _ h => h.elim)⟩
                    | succ l =>
                      have hpos : ((l + 1 : Nat) : Int) > 0 := by omega
                      cases hon : A'.on with
                      | false =>
                        rw [hon] at CO
                        have HT := hide ((unhide HQ).told (Or.inr hon) keep)
                        go_wp2_with fail
                        refine (unhide CL).mono ?_
                        rintro e wq ⟨rfl, rfl⟩
                        clear CL
                        go_wp2_with fail
                        refine (unhide CO).mono ?_
                        rintro e wr ⟨rfl, rfl⟩
                        clear CO
                        go_upto_region 28 with fail
                        have OM0 := hide (unhide HH).drop
                        obtain ⟨BT, hok8, hn4'⟩ := unhide HT
                        have hn4 : (A'.crash keep).n = 400 := hn4'
                        have OK1 : Hid (A'.ok 1000) := ok_mono hok8 (by omega)
                        have CC := hide (fun (w' : World) G' (h' : Has W w' G' m A') => h'.crash_arg (unhide OK1) ak keep capk (unhide HKP).2.1 (unhide HKP).2.2 (by
                          rcases (unhide HKP).1 with e | ⟨y, off, e, hy⟩
                          · exact Or.inl e
                          · exact Or.inr ⟨y, off, e, hy⟩))
                        have CF := hide (fun (w' : World) G' (h' : Has W w' G' m (A'.crash keep)) => h'.find (ok_crash (unhide OK1) keep))
                        rw [BT.e] at CF
                        have Z4 : Hid ((Tryz.prog.info? 49).map (·.zero) = some (some (.agg #[.int .i64 0, .int .i64 0, .int .i64 0, .int .i64 0]))) := by show _ = _; kernel_rfl
                        have ZT2 : Hid ((Tryz.prog.info? 66).map (·.zero) = some (some (.agg ZT))) := by show _ = _; rw [← unhide HZT]; exact zero_tab
                        have Z7 : Hid ((Tryz.prog.info? 95).map (·.zero) = some (some (.agg (iv .i64 zs7)))) := hide zero_7z
                        rcases BT.v with ⟨v1, v2, v3, v4⟩ | ⟨d, v1, v2, v4, v5⟩
                        · subst v3
                          rw [v1, v2] at CF
                          have s4 := s4_sup [2, K0.d 7, 0, 1] rfl
                          have X4 := hide (iv_one .i64 [2, K0.d 7, 0, 1])
                          have SZ : Hid ((#[.int .i64 0, .int .i64 0, .int .i64 0, .int .i64 0] : Array Value).size = (iv .i64 [2, K0.d 7, 0, 1]).size) := rfl
                          have K20 : Hid (∀ (w' : World) (g : Nat), w'.heap[g]? = some (.cells (iv .i64 [2, K0.d 7, 0, 1]) 49 (0, 0)) → w'.cell? ⟨g, 0, none⟩ = some (.int .i64 2) ∧ w'.cell? ⟨g, 1, none⟩ = some (.int .i64 (K0.d 7)) ∧ w'.cell? ⟨g, 2, none⟩ = some (.int .i64 0)) := fun w' g h => by
                            refine ⟨?_, ?_, ?_⟩ <;> rw [cell_of_block h] <;> rfl
                          obtain ⟨LD1, LD2⟩ := v4.load (by decide) hn4 rfl
                          have hd7 : (Lit.int .i64 (K0.d 7)).wf = true := by
                            have h := v4.db 7 (by decide)
                            exact wf_i64 (by omega) (by omega)
                          have CX : Hid (∀ (w' : World) (G' : Nat → Prop), Has W w' G' m (A'.crash keep) → Calls Tryz.prog 46 #[.pointer (some ⟨m, 0, none⟩), .int .i64 10, .int .i64 (K0.d 7)] w' fun e w'' => e = .returned (.tuple #[.agg TB, .agg (iv .i64 (ldL (A'.crash keep) 10 (K0.d 7))), .int .i64 0]) ∧ Keeps (fun _ => False) w' w'') := fun w' G' h' => by
                            obtain ⟨F, c, cs, q1, q2, q3, q4⟩ := h'
                            have q := xload_any q1 (by rw [hn4]; decide) (ok_crash (unhide OK1) keep).2.2.1 10 (K0.d 7) hd7
                            rw [LD1, LD2] at q
                            unfold LdPost at q
                            rw [show iv .i64 (rowE 49 wS) = TB from unhide HTB] at q
                            exact q
                          have lL := ldL_len (A'.crash keep) 10 (K0.d 7)
                          have AN3 : Hid ((A'.crash keep).n ≤ 1024) := by show _ ≤ _; rw [hn4]; decide
                          have XtT := hide (tabV_one wS)
                          rw [unhide HTB] at XtT
                          have SZtT : Hid (ZT.size = TB.size) := by show _ = _; rw [← unhide HZT, ← unhide HTB, tabV_size, tabV_size]
                          clear LD1 LD2 hd7 OK1 v1 v2 v4 BT HT HQ
                          generalize ldL (A'.crash keep) 10 (K0.d 7) = LL at *
                          generalize A'.crash keep = A3 at *
                          generalize iv .i64 [2, K0.d 7, 0, 1] = SV at *
                          generalize K0.d 7 = r7 at *
                          go_wp2_with fail
                          refine (unhide CC _ _ (unhide OM0).st).mono ?_
                          rintro e w20 ⟨rfl, h1, h2⟩
                          have OM1 := hide ((unhide OM0).call (St' := fun w G => Has W w G m A3) h1 h2)
                          clear h1 h2 OM0 CC HH
                          go_wp2_with fail
                          refine (unhide CF _ _ (unhide OM1).st).mono ?_
                          rintro e w21 ⟨rfl, h1, h2⟩
                          have OM2 := hide (((unhide OM1).call (St' := fun w G => Has W w G m A3) h1 h2).alloc (Has.stay W m A3) (.cells SV 49))
                          clear h1 h2 OM1 CF
                          go_upto_region 30 with (first | (with_reducible refine wpList_allocZ (by with_unfolding_all rfl) 49 (by with_unfolding_all rfl) #[.int .i64 0, .int .i64 0, .int .i64 0, .int .i64 0] (unhide Z4) ?_) | (with_reducible refine wpList_store_row (by with_unfolding_all rfl) 49 _ _ (by with_unfolding_all rfl) w21.heap.size SV (by with_unfolding_all rfl) (by with_unfolding_all rfl) 49 #[.int .i64 0, .int .i64 0, .int .i64 0, .int .i64 0] (heap_new w21 _) s4 (unhide SZ) (unhide X4) ?_; rw [setRow_alloc]))
                          obtain ⟨g19, hg19⟩ : ∃ g, g = w21.heap.size := ⟨_, rfl⟩
                          rw [← hg19] at OM2 ⊢
                          clear hg19
                          generalize w21.alloc (.cells SV 49) = w22 at *
                          obtain ⟨c0, c1, c2⟩ := unhide K20 w22 g19 ((unhide OM2).at g19 (.cells SV 49) (by simp))
                          clear s4 X4 SZ Z4 c0 c2
                          go_wp2_with fail
                          refine (unhide CX _ _ (unhide OM2).st).mono ?_
                          rintro e w23 ⟨rfl, hk⟩
                          clear c1
                          have OM3 := hide ((unhide OM2).keeps (Has.stay W m A3) hk)
                          clear hk CX OM2
                          have XL := hide (iv_one .i64 LL)
                          have SZL : Hid ((iv .i64 zs7).size = (iv .i64 LL).size) := by show _ = _; rw [iv_size, iv_size, lL]; rfl
                          have s7 : (Tryz.prog.info? 95).map (·.size) = some (iv .i64 LL).size := by rw [iv_size, lL]; kernel_rfl
                          generalize iv .i64 zs7 = ZLV at *
                          generalize iv .i64 LL = LV at *
                          obtain ⟨p1, p2, p3, p4⟩ := (unhide OM3).pair (Has.stay W m A3) ZT TB 66 ZLV LV 95
                          have O7 := hide p1
                          have H8 := hide p2
                          have H9 := hide p3
                          have H9' : Hid ((((w23.alloc (.cells ZT 66)).alloc (.cells ZLV 95)).setRow w23.heap.size TB).heap[(w23.alloc (.cells ZT 66)).heap.size]? = some (.cells ZLV 95 (0, 0))) := by show _ = _; rw [p4]; exact p3
                          have E9 := hide p4
                          clear OM3 p1 p2 p3 p4 lL
                          go_upto_region 31 with (first | (with_reducible refine wpList_allocZ (by with_unfolding_all rfl) 66 (by with_unfolding_all rfl) ZT (unhide ZT2) ?_) | (with_reducible refine wpList_allocZ (by with_unfolding_all rfl) 95 (by with_unfolding_all rfl) ZLV (unhide Z7) ?_) | (with_reducible refine wpList_store_row (by with_unfolding_all rfl) 66 _ _ (by with_unfolding_all rfl) w23.heap.size TB (by with_unfolding_all rfl) (by with_unfolding_all rfl) 66 ZT (unhide H8) stb (unhide SZtT) (unhide XtT) ?_) | (with_reducible refine wpList_store_row (by with_unfolding_all rfl) 95 _ _ (by with_unfolding_all rfl) (w23.heap.size + 1) LV (by with_unfolding_all rfl) (by with_unfolding_all rfl) 95 ZLV (unhide H9) s7 (unhide SZL) (unhide XL) ?_) | (with_reducible refine wpList_store_row (by with_unfolding_all rfl) 95 _ _ (by with_unfolding_all rfl) (w23.alloc (.cells ZT 66)).heap.size LV (by with_unfolding_all rfl) (by with_unfolding_all rfl) 95 ZLV (unhide H9') s7 (unhide SZL) (unhide XL) ?_))
                          try rw [unhide E9]
                          clear H8 H9 H9' E9 ZT2 Z7 XtT XL SZtT SZL s7
                          obtain ⟨g22, hg22⟩ : ∃ g, g = w23.heap.size := ⟨_, rfl⟩
                          rw [← hg22] at O7 ⊢
                          clear hg22
                          generalize (((w23.alloc (.cells ZT 66)).alloc (.cells ZLV 95)).setRow g22 TB).setRow (g22 + 1) LV = w24 at *
                          have OM4 := hide ((unhide O7).less (Has.stay W m A3) (L' := [(g22, .cells TB 66), (g19, .cells SV 49), (g15, .cells (waV (waTo S A 49)) 89), (g14, .cells TV 66), (g12, .cells TB 66)]) (by simp))
                          clear O7
                          obtain ⟨c0, c1, c2⟩ := unhide K20 w24 g19 ((unhide OM4).at g19 (.cells SV 49) (by simp))
                          have G22 := hide ((unhide OM4).at g22 (.cells TB 66) (by simp))
                          have G14 := hide ((unhide OM4).at g14 (.cells TV 66) (by simp))
                          have G12 := hide ((unhide OM4).at g12 (.cells TB 66) (by simp))
                          have KF := hide ((Has.stay W m A3).sz _ _ (unhide OM4).st)
                          go_wp2_with (first | (with_reducible refine wpList_load_row_g (by with_unfolding_all rfl) 66 (.tmp 22) (by with_unfolding_all rfl) g22 (by with_unfolding_all rfl) _ _ _ _ (unhide G22) Tryz.underlying66 (by with_unfolding_all rfl) stb ?_) | (with_reducible refine wpList_load_row_g (by with_unfolding_all rfl) 66 (.tmp 12) (by with_unfolding_all rfl) g12 (by with_unfolding_all rfl) _ _ _ _ (unhide G12) Tryz.underlying66 (by with_unfolding_all rfl) stb ?_) | (with_reducible refine wpList_eqlA (by with_unfolding_all rfl) 66 _ (.tmp 139) (.tmp 140) (by with_unfolding_all rfl) TB TB (by with_unfolding_all rfl) (by with_unfolding_all rfl) ztab_guard true (unhide EQB) ?_))
                          go_ret
                          exact ⟨rfl, (unhide KF).below (Nat.le_refl _) (fun _ h => h.elim)⟩
                        · skip
                          rw [v1, v2] at CF
                          have s4 := s4_sup [3, d 7, 5, 1] rfl
                          have X4 := hide (iv_one .i64 [3, d 7, 5, 1])
                          have SZ : Hid ((#[.int .i64 0, .int .i64 0, .int .i64 0, .int .i64 0] : Array Value).size = (iv .i64 [3, d 7, 5, 1]).size) := rfl
                          have K20 : Hid (∀ (w' : World) (g : Nat), w'.heap[g]? = some (.cells (iv .i64 [3, d 7, 5, 1]) 49 (0, 0)) → w'.cell? ⟨g, 0, none⟩ = some (.int .i64 3) ∧ w'.cell? ⟨g, 1, none⟩ = some (.int .i64 (d 7)) ∧ w'.cell? ⟨g, 2, none⟩ = some (.int .i64 5)) := fun w' g h => by
                            refine ⟨?_, ?_, ?_⟩ <;> rw [cell_of_block h] <;> rfl
                          obtain ⟨LD1, LD2⟩ := v4.load (by decide) hn4 rfl
                          have hd7 : (Lit.int .i64 (d 7)).wf = true := by
                            have h := v4.db 7 (by decide)
                            exact wf_i64 (by omega) (by omega)
                          have CX : Hid (∀ (w' : World) (G' : Nat → Prop), Has W w' G' m (A'.crash keep) → Calls Tryz.prog 46 #[.pointer (some ⟨m, 0, none⟩), .int .i64 10, .int .i64 (d 7)] w' fun e w'' => e = .returned (.tuple #[.agg TV, .agg (iv .i64 (ldL (A'.crash keep) 10 (d 7))), .int .i64 0]) ∧ Keeps (fun _ => False) w' w'') := fun w' G' h' => by
                            obtain ⟨F, c, cs, q1, q2, q3, q4⟩ := h'
                            have q := xload_any q1 (by rw [hn4]; decide) (ok_crash (unhide OK1) keep).2.2.1 10 (d 7) hd7
                            rw [LD1, LD2] at q
                            unfold LdPost at q
                            rw [show iv .i64 (rowE 49 S.w) = TV from unhide HTV] at q
                            exact q
                          have lL := ldL_len (A'.crash keep) 10 (d 7)
                          have AN3 : Hid ((A'.crash keep).n ≤ 1024) := by show _ ≤ _; rw [hn4]; decide
                          have XtT := hide (tabV_one S.w)
                          rw [unhide HTV] at XtT
                          have SZtT : Hid (ZT.size = TV.size) := by show _ = _; rw [← unhide HZT, ← unhide HTV, tabV_size, tabV_size]
                          have LNS : Hid (∀ k : Nat, k < 49 → (S.w k).k ≠ 0 → lnV ((A'.crash keep).hasZ (S.w k).l) = lnV (A.hasZ (S.line (k : Int))) ∧ S.getE A (k : Int) = 0) := fun k hk h0 => by
                            obtain ⟨g1, g2⟩ := get_there (unhide HD).good (unhide HD).calm (unhide HD).n hk h0
                            refine ⟨?_, g1⟩
                            rw [g2]
                            refine lnV_same fun j hj => ?_
                            have hz : (A'.crash keep).isZ (S.w k).l := by
                              have := v4.te k hk h0
                              show 0 ≤ (S.w k).l ∧ (S.w k).l < (A'.crash keep).n
                              rw [hn4]
                              omega
                            unfold Mm.hasZ
                            rw [if_pos ⟨hz, rfl⟩]
                            exact (v5 k hk h0).hs j hj
                          have TC : Hid (∀ k : Nat, k < 49 → TV[3 * k]? = some (.int .i64 (S.w k).k) ∧ TV[3 * k + 2]? = some (.int .i64 (S.w k).l)) := fun k hk => by
                            rw [← show tabV S.w = TV from unhide HTV, tabV_cell _ _ (by omega), tabV_cell _ _ (by omega)]
                            unfold fl3
                            refine ⟨?_, ?_⟩
                            · rw [show 3 * k / 3 = k by omega, show 3 * k % 3 = 0 by omega]; rfl
                            · rw [show (3 * k + 2) / 3 = k by omega, show (3 * k + 2) % 3 = 2 by omega]; rfl
                          clear LD1 LD2 hd7 OK1 v1 v2 v4 v5 BT HT HQ
                          generalize ldL (A'.crash keep) 10 (d 7) = LL at *
                          generalize A'.crash keep = A3 at *
                          generalize iv .i64 [3, d 7, 5, 1] = SV at *
                          generalize d 7 = r7 at *
                          go_wp2_with fail
                          refine (unhide CC _ _ (unhide OM0).st).mono ?_
                          rintro e w20 ⟨rfl, h1, h2⟩
                          have OM1 := hide ((unhide OM0).call (St' := fun w G => Has W w G m A3) h1 h2)
                          clear h1 h2 OM0 CC HH
                          go_wp2_with fail
                          refine (unhide CF _ _ (unhide OM1).st).mono ?_
                          rintro e w21 ⟨rfl, h1, h2⟩
                          have OM2 := hide (((unhide OM1).call (St' := fun w G => Has W w G m A3) h1 h2).alloc (Has.stay W m A3) (.cells SV 49))
                          clear h1 h2 OM1 CF
                          go_upto_region 30 with (first | (with_reducible refine wpList_allocZ (by with_unfolding_all rfl) 49 (by with_unfolding_all rfl) #[.int .i64 0, .int .i64 0, .int .i64 0, .int .i64 0] (unhide Z4) ?_) | (with_reducible refine wpList_store_row (by with_unfolding_all rfl) 49 _ _ (by with_unfolding_all rfl) w21.heap.size SV (by with_unfolding_all rfl) (by with_unfolding_all rfl) 49 #[.int .i64 0, .int .i64 0, .int .i64 0, .int .i64 0] (heap_new w21 _) s4 (unhide SZ) (unhide X4) ?_; rw [setRow_alloc]))
                          obtain ⟨g19, hg19⟩ : ∃ g, g = w21.heap.size := ⟨_, rfl⟩
                          rw [← hg19] at OM2 ⊢
                          clear hg19
                          generalize w21.alloc (.cells SV 49) = w22 at *
                          obtain ⟨c0, c1, c2⟩ := unhide K20 w22 g19 ((unhide OM2).at g19 (.cells SV 49) (by simp))
                          clear s4 X4 SZ Z4 c0 c2
                          go_wp2_with fail
                          refine (unhide CX _ _ (unhide OM2).st).mono ?_
                          rintro e w23 ⟨rfl, hk⟩
                          clear c1
                          have OM3 := hide ((unhide OM2).keeps (Has.stay W m A3) hk)
                          clear hk CX OM2
                          have XL := hide (iv_one .i64 LL)
                          have SZL : Hid ((iv .i64 zs7).size = (iv .i64 LL).size) := by show _ = _; rw [iv_size, iv_size, lL]; rfl
                          have s7 : (Tryz.prog.info? 95).map (·.size) = some (iv .i64 LL).size := by rw [iv_size, lL]; kernel_rfl
                          generalize iv .i64 zs7 = ZLV at *
                          generalize iv .i64 LL = LV at *
                          obtain ⟨p1, p2, p3, p4⟩ := (unhide OM3).pair (Has.stay W m A3) ZT TV 66 ZLV LV 95
                          have O7 := hide p1
                          have H8 := hide p2
                          have H9 := hide p3
                          have H9' : Hid ((((w23.alloc (.cells ZT 66)).alloc (.cells ZLV 95)).setRow w23.heap.size TV).heap[(w23.alloc (.cells ZT 66)).heap.size]? = some (.cells ZLV 95 (0, 0))) := by show _ = _; rw [p4]; exact p3
                          have E9 := hide p4
                          clear OM3 p1 p2 p3 p4 lL
                          go_upto_region 31 with (first | (with_reducible refine wpList_allocZ (by with_unfolding_all rfl) 66 (by with_unfolding_all rfl) ZT (unhide ZT2) ?_) | (with_reducible refine wpList_allocZ (by with_unfolding_all rfl) 95 (by with_unfolding_all rfl) ZLV (unhide Z7) ?_) | (with_reducible refine wpList_store_row (by with_unfolding_all rfl) 66 _ _ (by with_unfolding_all rfl) w23.heap.size TV (by with_unfolding_all rfl) (by with_unfolding_all rfl) 66 ZT (unhide H8) st (unhide SZtT) (unhide XtT) ?_) | (with_reducible refine wpList_store_row (by with_unfolding_all rfl) 95 _ _ (by with_unfolding_all rfl) (w23.heap.size + 1) LV (by with_unfolding_all rfl) (by with_unfolding_all rfl) 95 ZLV (unhide H9) s7 (unhide SZL) (unhide XL) ?_) | (with_reducible refine wpList_store_row (by with_unfolding_all rfl) 95 _ _ (by with_unfolding_all rfl) (w23.alloc (.cells ZT 66)).heap.size LV (by with_unfolding_all rfl) (by with_unfolding_all rfl) 95 ZLV (unhide H9') s7 (unhide SZL) (unhide XL) ?_))
                          try rw [unhide E9]
                          clear H8 H9 H9' E9 ZT2 Z7 XtT XL SZtT SZL s7
                          obtain ⟨g22, hg22⟩ : ∃ g, g = w23.heap.size := ⟨_, rfl⟩
                          rw [← hg22] at O7 ⊢
                          clear hg22
                          generalize (((w23.alloc (.cells ZT 66)).alloc (.cells ZLV 95)).setRow g22 TV).setRow (g22 + 1) LV = w24 at *
                          have OM4 := hide ((unhide O7).less (Has.stay W m A3) (L' := [(g22, .cells TV 66), (g19, .cells SV 49), (g15, .cells (waV (waTo S A 49)) 89), (g14, .cells TV 66), (g12, .cells TB 66)]) (by simp))
                          clear O7
                          obtain ⟨c0, c1, c2⟩ := unhide K20 w24 g19 ((unhide OM4).at g19 (.cells SV 49) (by simp))
                          have G22 := hide ((unhide OM4).at g22 (.cells TV 66) (by simp))
                          have G14 := hide ((unhide OM4).at g14 (.cells TV 66) (by simp))
                          have G12 := hide ((unhide OM4).at g12 (.cells TB 66) (by simp))
                          go_wp2_with (first | (with_reducible refine wpList_load_row_g (by with_unfolding_all rfl) 66 (.tmp 22) (by with_unfolding_all rfl) g22 (by with_unfolding_all rfl) _ _ _ _ (unhide G22) Tryz.underlying66 (by with_unfolding_all rfl) st ?_) | (with_reducible refine wpList_load_row_g (by with_unfolding_all rfl) 66 (.tmp 14) (by with_unfolding_all rfl) g14 (by with_unfolding_all rfl) _ _ _ _ (unhide G14) Tryz.underlying66 (by with_unfolding_all rfl) st ?_) | (with_reducible refine wpList_neqA (by with_unfolding_all rfl) 66 _ (.tmp 147) (.tmp 148) (by with_unfolding_all rfl) TV TV (by with_unfolding_all rfl) (by with_unfolding_all rfl) ztab_guard true (unhide EQT) ?_))
                          clear G22 G14 G12 c0 c1 c2 K20
                          have OM5 : Hid (Held W (fun w G => Has W w G m A3) w24 w24 (fun _ => False) [(g22, .cells TV 66), (g15, .cells (waV (waTo S A 49)) 89)]) := ⟨((unhide OM4).less (Has.stay W m A3) (by simp)).1, ((unhide OM4).less (Has.stay W m A3) (by simp)).2.1, fun _ h => h.elim⟩
                          clear OM4
                          go_loopw [25, 26, 27] (fun q _ _ wq => ∃ k : Nat, k ≤ 49 ∧ q = .int .i64 k ∧ Held W (fun w G => Has W w G m A3) w24 wq (fun _ => False) [(g22, .cells TV 66), (g15, .cells (waV (waTo S A 49)) 89)]) (fun q _ _ _ => 49 - (intOf q).toNat)
                          case atStart => exact ⟨0, by omega, rfl, unhide OM5⟩
                          case round =>
                            clear OM5
                            obtain ⟨k, hk, rfl, hh⟩ := hrel
                            have HH := hide hh
                            clear hh
                            by_cases hlk : k < 49
                            · have hk49 : (k : Int) < 49 := by omega
                              obtain ⟨t0, t2⟩ := unhide TC k hlk
                              have HC0 : Hid (∀ w' : World, w'.heap[g22]? = some (.cells TV 66 (0, 0)) → w'.cell? ⟨g22, k * 3, none⟩ = some (.int .i64 (S.w k).k) ∧ w'.cell? ⟨g22, k * 3 + 2, none⟩ = some (.int .i64 (S.w k).l)) := fun w' h => by rw [cell_of_block h, cell_of_block h, Nat.mul_comm k 3]; exact ⟨t0, t2⟩
                              clear t0 t2
                              have CL := hide ((unhide HH).st.loadZ (unhide AN3) (S.w k).l)
                              have ZL := hide zero_lnz
                              have L8 := lnV_size (A3.hasZ (S.w k).l)
                              have XL := hide (lnV_one (A3.hasZ (S.w k).l))
                              have s8 : (Tryz.prog.info? 83).map (·.size) = some (lnV (A3.hasZ (S.w k).l)).size := by rw [L8]; kernel_rfl
                              have SZ8 : Hid ((lnV fun _ => 0).size = (lnV (A3.hasZ (S.w k).l)).size) := by show _ = _; rw [L8, lnV_size]
                              clear L8
                              generalize (lnV fun _ => 0) = ZLN at *
                              by_cases h0 : (S.w k).k = 0
                              · rw [h0] at HC0
                                generalize lnV (A3.hasZ (S.w k).l) = XV at *
                                generalize A3.loadE (S.w k).l = le at *
                                generalize (S.w k).l = ly at *
                                obtain ⟨c0, c2⟩ := unhide HC0 _ ((unhide HH).at g22 (.cells TV 66) (by simp))
                                go_wp2_with fail
                                refine (unhide CL).mono ?_
                                rintro e w33 ⟨rfl, h1, h2⟩
                                clear c0 c2
                                have O4 := hide (((unhide HH).call (St' := fun w G => Has W w G m A3) h1 h2).alloc (Has.stay W m A3) (.cells XV 83))
                                clear h1 h2 HH CL
                                go_upto_region 41 with (first | (with_reducible refine wpList_allocZ (by with_unfolding_all rfl) 83 (by with_unfolding_all rfl) ZLN (unhide ZL) ?_) | (with_reducible refine wpList_store_row (by with_unfolding_all rfl) 83 _ _ (by with_unfolding_all rfl) w33.heap.size XV (by with_unfolding_all rfl) (by with_unfolding_all rfl) 83 ZLN (heap_new w33 _) s8 (unhide SZ8) (unhide XL) ?_; rw [setRow_alloc]))
                                obtain ⟨g26, hg26⟩ : ∃ g, g = w33.heap.size := ⟨_, rfl⟩
                                rw [← hg26] at O4 ⊢
                                clear hg26
                                generalize w33.alloc (.cells XV 83) = w34 at *
                                have O6 := hide ((unhide O4).drew (Has.stay W m A3))
                                clear O4
                                have SS : Hid (w34.drew.cell? ⟨g22, k * 3, none⟩ = some (.int .i64 0)) := (unhide HC0 _ ((unhide O6).at g22 (.cells TV 66) (by simp))).1
                                refine wp_region_noPanic ?_
                                refine wp_region_held_drew (S := fun w' => w'.cell? ⟨g22, k * 3, none⟩ = some (.int .i64 0)) (by kernel_rfl) (unhide SS) (fun hHeld => ?_)
                                clear SS
                                generalize w34.drew = w35 at *
                                refine take_at 0 169 (v := ?_) rfl rfl (by kernel_rfl) (by kernel_rfl) (by kernel_rfl) (Or.inl ⟨by rfl, ?_⟩) hHeld ?_
                                rotate_left
                                · intro w hSw; go_simp; with_reducible rfl
                                simp only [Act.put, List.setIfInBounds_toArray, List.set_cons_zero, List.set_cons_succ]
                                refine take_at 1 170 (v := .pointer (some ⟨g22, k * 3, none⟩)) rfl rfl (by kernel_rfl) (by kernel_rfl) (by kernel_rfl) (Or.inl ⟨by rfl, ?_⟩) hHeld ?_
                                · intro w hSw
                                  first | (go_simp; done) | (go_simp; rfl) | (simp [execOp, Act.eval]; done)
                                simp only [Act.put, List.setIfInBounds_toArray, List.set_cons_zero, List.set_cons_succ]
                                refine take_at 2 171 (v := .pointer (some ⟨g22, k * 3, none⟩)) rfl rfl (by kernel_rfl) (by kernel_rfl) (by kernel_rfl) (Or.inl ⟨by rfl, ?_⟩) hHeld ?_
                                · intro w hSw
                                  first | (go_simp; done) | (go_simp; rfl) | (simp [execOp, Act.eval]; done)
                                simp only [Act.put, List.setIfInBounds_toArray, List.set_cons_zero, List.set_cons_succ]
                                refine take_at 3 172 (v := ?_) rfl rfl (by kernel_rfl) (by kernel_rfl) (by kernel_rfl) (Or.inl ⟨by rfl, ?_⟩) hHeld ?_
                                rotate_left
                                · intro w hSw; go_simp; with_reducible rfl
                                simp only [Act.put, List.setIfInBounds_toArray, List.set_cons_zero, List.set_cons_succ]
                                refine take_at 4 173 (v := ?_) rfl rfl (by kernel_rfl) (by kernel_rfl) (by kernel_rfl) (Or.inl ⟨by rfl, ?_⟩) hHeld ?_
                                rotate_left
                                · intro w hSw; go_simp; with_reducible rfl
                                simp only [Act.put, List.setIfInBounds_toArray, List.set_cons_zero, List.set_cons_succ]
                                refine take_at 5 174 (v := ?_) rfl rfl (by kernel_rfl) (by kernel_rfl) (by kernel_rfl) (Or.inl ⟨by rfl, ?_⟩) hHeld ?_
                                rotate_left
                                · intro w hSw; go_simp; with_reducible rfl
                                simp only [Act.put, List.setIfInBounds_toArray, List.set_cons_zero, List.set_cons_succ]
                                refine take_at 6 175 rfl rfl (by kernel_rfl) (by kernel_rfl) (by kernel_rfl) (Or.inr ⟨by rfl, rfl⟩) hHeld ?_
                                simp only [Act.put, List.setIfInBounds_toArray, List.set_cons_zero, List.set_cons_succ]
                                refine take_at 7 176 rfl rfl (by kernel_rfl) (by kernel_rfl) (by kernel_rfl) (Or.inr ⟨by rfl, rfl⟩) hHeld ?_
                                simp only [Act.put, List.setIfInBounds_toArray, List.set_cons_zero, List.set_cons_succ]
                                refine take_at 8 177 rfl rfl (by kernel_rfl) (by kernel_rfl) (by kernel_rfl) (Or.inr ⟨by rfl, rfl⟩) hHeld ?_
                                simp only [Act.put, List.setIfInBounds_toArray, List.set_cons_zero, List.set_cons_succ]
                                refine take_at 9 178 rfl rfl (by kernel_rfl) (by kernel_rfl) (by kernel_rfl) (Or.inr ⟨by rfl, rfl⟩) hHeld ?_
                                simp only [Act.put, List.setIfInBounds_toArray, List.set_cons_zero, List.set_cons_succ]
                                refine take_at 10 179 rfl rfl (by kernel_rfl) (by kernel_rfl) (by kernel_rfl) (Or.inr ⟨by rfl, rfl⟩) hHeld ?_
                                simp only [Act.put, List.setIfInBounds_toArray, List.set_cons_zero, List.set_cons_succ]
                                refine take_at 11 180 rfl rfl (by kernel_rfl) (by kernel_rfl) (by kernel_rfl) (Or.inr ⟨by rfl, rfl⟩) hHeld ?_
                                simp only [Act.put, List.setIfInBounds_toArray, List.set_cons_zero, List.set_cons_succ]
                                refine take_at 12 181 (v := ?_) rfl rfl (by kernel_rfl) (by kernel_rfl) (by kernel_rfl) (Or.inl ⟨by rfl, ?_⟩) hHeld ?_
                                rotate_left
                                · intro w hSw; go_simp; with_reducible rfl
                                simp only [Act.put, List.setIfInBounds_toArray, List.set_cons_zero, List.set_cons_succ]
                                refine wpAnyH_done (by kernel_rfl) ?_ _
                                refine NoPanic.normal ?_
                                clear hHeld
                                have O7 := hide ((unhide O6).less (Has.stay W m A3) (L' := [(g22, .cells TV 66), (g15, .cells (waV (waTo S A 49)) 89)]) (by simp))
                                go_wp2_with fail
                                go_roundw
                                case rel => exact ⟨k + 1, by omega, by go_num, unhide O7⟩
                                case measure => simp [intOf]; omega
                              · obtain ⟨q2, q3⟩ := unhide LNS k hlk h0
                                have RK : Hid (∀ w' : World, w'.heap[g15]? = some (.cells (waV (waTo S A 49)) 89 (0, 0)) → w'.rangeAt g15 (k * 10 + 2) (lnV (A.hasZ (S.line (k : Int)))).toList) := fun w' h => wa_line hlk q3 h
                                have EQ := hide (fun (w : World) => zequal_ln 9998 (A.hasZ (S.line (k : Int))) w)
                                rw [q2] at CL
                                rw [q2] at s8 XL SZ8
                                have hne : ((S.w k).k == 0) = false := by simpa using h0
                                have hne2 : ((S.w k).k != 0) = true := by simpa using h0
                                clear q2 q3
                                generalize lnV (A.hasZ (S.line (k : Int))) = XV at *
                                generalize A3.loadE (S.w k).l = le at *
                                generalize (S.w k).k = kk at *
                                generalize (S.w k).l = ly at *
                                have s8l : (Tryz.prog.info? 83).map (·.size) = some XV.toList.length := by rw [Array.length_toList]; exact s8
                                obtain ⟨c0, c2⟩ := unhide HC0 _ ((unhide HH).at g22 (.cells TV 66) (by simp))
                                go_wp2_with fail
                                refine (unhide CL).mono ?_
                                rintro e w33 ⟨rfl, h1, h2⟩
                                clear c0 c2
                                have O4 := hide (((unhide HH).call (St' := fun w G => Has W w G m A3) h1 h2).alloc (Has.stay W m A3) (.cells XV 83))
                                clear h1 h2 HH CL
                                go_upto_region 41 with (first | (with_reducible refine wpList_allocZ (by with_unfolding_all rfl) 83 (by with_unfolding_all rfl) ZLN (unhide ZL) ?_) | (with_reducible refine wpList_store_row (by with_unfolding_all rfl) 83 _ _ (by with_unfolding_all rfl) w33.heap.size XV (by with_unfolding_all rfl) (by with_unfolding_all rfl) 83 ZLN (heap_new w33 _) s8 (unhide SZ8) (unhide XL) ?_; rw [setRow_alloc]))
                                obtain ⟨g26, hg26⟩ : ∃ g, g = w33.heap.size := ⟨_, rfl⟩
                                rw [← hg26] at O4 ⊢
                                clear hg26
                                generalize w33.alloc (.cells XV 83) = w34 at *
                                have O6 := hide ((unhide O4).drew (Has.stay W m A3))
                                clear O4
                                have SS : Hid (w34.drew.cell? ⟨g22, k * 3, none⟩ = some (.int .i64 kk) ∧ w34.drew.rangeAt g26 0 XV.toList ∧ w34.drew.rangeAt g15 (k * 10 + 2) XV.toList) := ⟨(unhide HC0 _ ((unhide O6).at g22 (.cells TV 66) (by simp))).1, fun j u hu => by rw [cell_of_block ((unhide O6).at g26 (.cells XV 83) (by simp)), Nat.zero_add, ← Array.getElem?_toList]; exact hu, unhide RK _ ((unhide O6).at g15 (.cells (waV (waTo S A 49)) 89) (by simp))⟩
                                refine wp_region_noPanic ?_
                                refine wp_region_held_drew (S := fun w' => w'.cell? ⟨g22, k * 3, none⟩ = some (.int .i64 kk) ∧ w'.rangeAt g26 0 XV.toList ∧ w'.rangeAt g15 (k * 10 + 2) XV.toList) (by kernel_rfl) (unhide SS) (fun hHeld => ?_)
                                clear SS RK
                                generalize w34.drew = w35 at *
                                refine take_at 0 169 (v := ?_) rfl rfl (by kernel_rfl) (by kernel_rfl) (by kernel_rfl) (Or.inl ⟨by rfl, ?_⟩) hHeld ?_
                                rotate_left
                                · intro w hSw; go_simp; with_reducible rfl
                                simp only [Act.put, List.setIfInBounds_toArray, List.set_cons_zero, List.set_cons_succ]
                                refine take_at 1 170 (v := .pointer (some ⟨g22, k * 3, none⟩)) rfl rfl (by kernel_rfl) (by kernel_rfl) (by kernel_rfl) (Or.inl ⟨by rfl, ?_⟩) hHeld ?_
                                · intro w hSw
                                  first | (go_simp; done) | (go_simp; rfl) | (simp [execOp, Act.eval]; done)
                                simp only [Act.put, List.setIfInBounds_toArray, List.set_cons_zero, List.set_cons_succ]
                                refine take_at 2 171 (v := .pointer (some ⟨g22, k * 3, none⟩)) rfl rfl (by kernel_rfl) (by kernel_rfl) (by kernel_rfl) (Or.inl ⟨by rfl, ?_⟩) hHeld ?_
                                · intro w hSw
                                  first | (go_simp; done) | (go_simp; rfl) | (simp [execOp, Act.eval]; done)
                                simp only [Act.put, List.setIfInBounds_toArray, List.set_cons_zero, List.set_cons_succ]
                                refine take_at 3 172 (v := ?_) rfl rfl (by kernel_rfl) (by kernel_rfl) (by kernel_rfl) (Or.inl ⟨by rfl, ?_⟩) hHeld ?_
                                rotate_left
                                · intro w hSw; obtain ⟨c1, c2, c3⟩ := hSw; go_simp; with_reducible rfl
                                simp only [Act.put, List.setIfInBounds_toArray, List.set_cons_zero, List.set_cons_succ]
                                refine take_at 4 173 (v := .bool true) rfl rfl (by kernel_rfl) (by kernel_rfl) (by kernel_rfl) (Or.inl ⟨by rfl, ?_⟩) hHeld ?_
                                · intro w hSw
                                  first | (go_simp; done) | (go_simp; simp [hne]; done) | (go_simp; rw [hne]; rfl) | (go_simp; rw [hne2])
                                simp only [Act.put, List.setIfInBounds_toArray, List.set_cons_zero, List.set_cons_succ]
                                refine take_at 5 174 (v := ?_) rfl rfl (by kernel_rfl) (by kernel_rfl) (by kernel_rfl) (Or.inl ⟨by rfl, ?_⟩) hHeld ?_
                                rotate_left
                                · intro w hSw; go_simp; with_reducible rfl
                                simp only [Act.put, List.setIfInBounds_toArray, List.set_cons_zero, List.set_cons_succ]
                                refine take_at 6 175 rfl rfl (by kernel_rfl) (by kernel_rfl) (by kernel_rfl) (yieldsIf_load_mid (by rfl) 83 _ rfl g26 0 rfl XV.toList _ (fun w' h => h.2.1) Tryz.underlying83 rfl s8l) hHeld ?_
                                simp only [Act.put, List.setIfInBounds_toArray, List.set_cons_zero, List.set_cons_succ]
                                refine take_at 7 176 (v := ?_) rfl rfl (by kernel_rfl) (by kernel_rfl) (by kernel_rfl) (Or.inl ⟨by rfl, ?_⟩) hHeld ?_
                                rotate_left
                                · intro w hSw; go_simp; with_reducible rfl
                                simp only [Act.put, List.setIfInBounds_toArray, List.set_cons_zero, List.set_cons_succ]
                                refine take_at 8 177 (v := .pointer (some ⟨g15, k * 10, none⟩)) rfl rfl (by kernel_rfl) (by kernel_rfl) (by kernel_rfl) (Or.inl ⟨by rfl, ?_⟩) hHeld ?_
                                · intro w hSw
                                  first | (go_simp; done) | (go_simp; rfl) | (simp [execOp, Act.eval]; done)
                                simp only [Act.put, List.setIfInBounds_toArray, List.set_cons_zero, List.set_cons_succ]
                                refine take_at 9 178 (v := .pointer (some ⟨g15, k * 10 + 2, none⟩)) rfl rfl (by kernel_rfl) (by kernel_rfl) (by kernel_rfl) (Or.inl ⟨by rfl, ?_⟩) hHeld ?_
                                · intro w hSw
                                  first | (go_simp; done) | (go_simp; rfl) | (simp [execOp, Act.eval]; done)
                                simp only [Act.put, List.setIfInBounds_toArray, List.set_cons_zero, List.set_cons_succ]
                                refine take_at 10 179 rfl rfl (by kernel_rfl) (by kernel_rfl) (by kernel_rfl) (yieldsIf_load_mid (by rfl) 83 _ rfl g15 (k * 10 + 2) rfl XV.toList _ (fun w' h => h.2.2) Tryz.underlying83 rfl s8l) hHeld ?_
                                simp only [Act.put, List.setIfInBounds_toArray, List.set_cons_zero, List.set_cons_succ]
                                refine take_at 11 180 rfl rfl (by kernel_rfl) (by kernel_rfl) (by kernel_rfl) (yieldsIf_neqA (by rfl) 83 _ (.tmp 175) (.tmp 179) rfl XV XV rfl rfl zln_guard true (unhide EQ)) hHeld ?_
                                simp only [Act.put, List.setIfInBounds_toArray, List.set_cons_zero, List.set_cons_succ]
                                refine take_at 12 181 (v := ?_) rfl rfl (by kernel_rfl) (by kernel_rfl) (by kernel_rfl) (Or.inl ⟨by rfl, ?_⟩) hHeld ?_
                                rotate_left
                                · intro w hSw; go_simp; with_reducible rfl
                                simp only [Act.put, List.setIfInBounds_toArray, List.set_cons_zero, List.set_cons_succ]
                                refine wpAnyH_done (by kernel_rfl) ?_ _
                                refine NoPanic.normal ?_
                                clear hHeld
                                have O7 := hide ((unhide O6).less (Has.stay W m A3) (L' := [(g22, .cells TV 66), (g15, .cells (waV (waTo S A 49)) 89)]) (by simp))
                                go_wp2_with fail
                                go_roundw
                                case rel => exact ⟨k + 1, by omega, by go_num, unhide O7⟩
                                case measure => simp [intOf]; omega
                            · have hge : ¬ ((k : Int) < 49) := by omega
                              have KF := hide ((Has.stay W m A3).sz _ _ (unhide HH).st)
                              clear hlk
                              go_wp2_with fail
                              go_ret
                              exact ⟨rfl, (unhide KF).below (Nat.le_refl _) (fun _ h => h.elim)⟩
                      | true =>
                        rw [hon] at CO
                        have hjl2 := hjl hon
                        obtain ⟨p1, p2, p3, l', p4, p5, p6⟩ := (unhide HQ).step (by decide) hon
                        have CS := hide (wstep_any (unhide M) (unhide HH).st p1 p2 p3)
                        have HQ2 := hide p5
                        clear p1 p2 p3 p5 HQ
                        generalize K'.stepE S' A' = er at *
                        generalize K'.stepD S' A' = D2 at *
                        generalize K'.stepS S' A' = S2 at *
                        generalize K'.stepM S' A' = A2 at *
                        generalize K'.stepK S' A' = K2 at *
                        go_wp2_with fail
                        refine (unhide CL).mono ?_
                        rintro e wq ⟨rfl, rfl⟩
                        clear CL
                        go_wp2_with fail
                        refine (unhide CO).mono ?_
                        rintro e wr ⟨rfl, rfl⟩
                        clear CO
                        go_wp2_with fail
                        refine (unhide CS).mono ?_
                        rintro e w9 ⟨rfl, h1, h2⟩
                        have O7 := hide ((unhide HH).call (St' := WHas W m b x (fun A w G => Has W w G m A) S2 A2 K2) h1 h2)
                        clear h1 h2 CS HH
                        go_wp2_with fail
                        go_roundw
                        case rel => exact ⟨j + 1, l', D2, S2, A2, K2, by omega, fun z => by have := p6 z; omega, rfl, by go_num, unhide HQ2, unhide O7⟩
                        case measure => simp [intOf]; omega

set_option maxRecDepth 100000 in
theorem lifted (os : Os) (started : os.Started) (H : Type) (enc : TypeId × Value → H) :
    ReturnsInHanded {} Tryz.checked os 4 .any (Rows.snapPowerSpec.pre6 enc Tryz.prog Tryz.f4 Rows.snapPowerRow.domain false) (Rows.snapPowerSpec.post enc Tryz.prog Tryz.f4 false true false false) := by
  refine law_frame (C := Tryz.checked) (ts := [23, 3, 85]) (tb := 4) (by kernel_rfl) started (by kernel_rfl) Tryz.func4 Tryz.params4 (by kernel_rfl) Tryz.underlying4 (by kernel_rfl) (by kernel_rfl) rfl ?_
    (ChangeSpec.witness6 (enc := enc) (C := Tryz.checked) false ⟨#[], #[.slice none 0 0, .int .i64 0, .slice none 0 0], []⟩ 8 (by kernel_rfl) (by kernel_rfl) (by kernel_rfl) (by kernel_rfl)) ?_
  · intro ds hd
    match ds, hd with
    | [d0, d1, d2], _ => rfl
  · intro W base args ds p hval hA
    obtain ⟨v0, vs0, d0, ds0, p0, q0, hargs, rfl, rfl, h0, r0⟩ := trodAll_cons hA
    obtain ⟨v1, vs1, d1, ds1, p1, q1, rfl, rfl, rfl, h1, r1⟩ := trodAll_cons r0
    obtain ⟨v2, vs2, d2, ds2, p2, q2, rfl, rfl, rfl, h2, r2⟩ := trodAll_cons r1
    obtain ⟨rfl, rfl, rfl⟩ := trodAll_nil r2
    obtain rfl : args = #[v0, v1, v2] := by cases args; simp_all
    obtain ⟨a, n, cap, o, rfl, hO⟩ := open_zops (hval 0 23 v0 rfl rfl) h0
    obtain ⟨at', rfl, rfl, rfl, wat'⟩ := open_int Tryz.underlying3 (hval 1 3 v1 rfl rfl) h1
    obtain ⟨ak, keep, nk, capk, rfl, hK⟩ := open_keepZ (hval 2 85 v2 rfl rfl) h2
    exact walk W a n cap o at' ak keep nk capk hO wat' hK

theorem over : Rows.snapPowerRow.holds Tryz.pinned (OpenSpec.ofChange Rows.snapPowerSpec) :=
  OpenClaim.holds_of_wide 4 Tryz.f4 rfl rfl rfl rfl rfl rfl rfl ⟨rfl, rfl, rfl, rfl, rfl⟩ rfl rfl rfl rfl rfl (by kernel_rfl) Tryz.func4 (by kernel_rfl)
    (of_decide_eq_true (by kernel_rfl)) (by unfold Func.isWrapper; first | (rw [if_pos (by decide +kernel)]; kernel_rfl) | (rw [if_neg (by decide +kernel)]; exact ⟨rfl, rfl⟩))
    (fun os started H enc _ => lifted os started H enc)

end Go.Proofs.YtiafhcgaikapcaaGreat.snapPower
namespace Go.Proofs.YtiafhcgaikapcaaGreat
theorem snapPower_holds : Rows.SnapPowerSaid := snapPower.over
end Go.Proofs.YtiafhcgaikapcaaGreat
