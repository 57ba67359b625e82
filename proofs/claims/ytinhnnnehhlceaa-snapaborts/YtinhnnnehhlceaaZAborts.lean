
/-
  For every row of changes and every number, SnapAborts returns true and leaves its arguments as they were: a checkpoint for whose lines no frame is free is given up. No condition.
-/
import Derived.Test.YtinhnnnehhlceaaPkZd
import Derived.Test.YtinhnnnehhlceaaPkIv
import Derived.Test.YtinhnnnehhlceaaLaw
import Derived.Test.YtinhnnnehhlceaaRows
namespace Go.Proofs.Ytinhnnnehhlceaa.snapAborts
open Go.ChangeShapes Go.WideShapes Go.ChangeAt Go.RowKit Go.Joins
set_option linter.unusedVariables false
set_option linter.unusedSimpArgs false
set_option maxRecDepth 100000

/-- How many frames are left, read off the store's cells. -/
def cellZ (w : World) (b i : Nat) : Int := match w.cell? ⟨b, i, none⟩ with | some (.int _ z) => z | _ => 1
def leftW (w : World) (b N : Nat) : Nat := (List.range N).countP fun i => decide (10 ≤ i) && (cellZ w b (3 + i) == 0)
theorem leftW_is {m : Nat} {S : Sto} {w : World} {b N : Nat} (h : SRep m S w b) (h1 : S.F.lo = 10 ∧ S.F.hi = N) (hN : N ≤ 1024) : leftW w b N = S.F.left := by
  unfold leftW Fr.left Fr.leftTo
  rw [h1.2]
  apply List.countP_congr
  intro i hi
  have hi' := List.mem_range.1 hi
  have hc : cellZ w b (3 + i) = S.F.s i := by
    unfold cellZ
    rw [Blk.cell h (3 + i) (by omega), show 3 + i = 1 + (2 + i) by omega, stF_fr _ _ _ (by omega)]
    have : frF S.F (2 + i) = .int .i64 (S.F.s i) := by unfold frF; rw [if_neg (by omega), if_neg (by omega), show 2 + i - 2 = i by omega]
    rw [this]
  rw [hc]
  unfold Fr.fr
  rw [h1.1]
/-- Behind some Takes. -/
structure Tkn (S : Sto) : Prop where
  good : Good 100 S
  is : S.is = false
theorem Tkn.took {S : Sto} (h : Tkn S) : Tkn S.took := ⟨h.good.took, h.is⟩
theorem begin_again {S0 : Sto} {K0 : Wk} {S : Sto} {K : Wk} (h : Gone S0 K0 S K) (hg : K0.gen = 1) : K.beginE S 2 = 0 := by
  have e : S.markE = 0 := by unfold Sto.markE; rw [h.is]; rfl
  have ha : K.argB 2 = true := by
    unfold Wk.argB
    have : K.gen = 1 := by unfold Wk.gen; rw [h.kb]; exact hg
    rw [this]; decide
  unfold Wk.beginE
  rw [if_neg (by rw [h.l]; simp), if_pos ha, e]


set_option maxHeartbeats 32000000 in
theorem walk (W : World) (a : Option Addr) (n cap : Nat) (o : Nat → OOp) (sq : Int) (hO : OOpsAt W a n cap o) (wsq : (Lit.int .i64 sq).wf = true) :
    Calls Try.prog 3 #[.slice a n cap, .int .i64 sq] W fun e W' => e = .returned (.bool true) ∧ Below W.heap.size W W' := by
  have CK := hide (zkind_any sq (in64_wf wsq) 8 (by decide) (by decide))
  have hk8 := kindN_lt sq 8 (by decide)
  obtain ⟨kq, hkq⟩ : ∃ kq, kq = kindN sq 8 := ⟨_, rfl⟩
  rw [← hkq] at CK hk8
  clear hkq wsq
  obtain ⟨hn, hops⟩ := hO
  have HO := hide hops
  clear hops
  go_enter Try.func3, Try.ntmps3
  go_wp2_with fail
  refine (zshown_any W).mono ?_
  rintro e w0 ⟨rfl, hk0⟩
  have CM := hide (zmade_any W w0 hk0 (fun _ => False) (fun _ h => h.elim) 100 12 (by decide) (by decide) (by decide))
  clear hk0
  go_wp2_with fail
  refine (unhide CM).mono ?_
  rintro e w1 ⟨m, b, x, rfl, hw, -⟩
  have HW0 := hide hw
  have M := hide (Has.memX W m)
  have D0 := hide (Chd.start 100 (by decide) (by decide))
  clear hw CM
  have hK0 : Hid (wk0.l = [] ∧ Sup wk0 ∧ wk0.gen = 1) := ⟨rfl, sup_wk0, rfl⟩
  generalize iA 12 100 = A0 at *
  generalize sS 12 100 = S0 at *
  generalize wk0 = K0 at *
  go_wp2_with fail
  go_loopw [9] (fun q wr => ∃ (i : Nat) (S : Sto) (A : Mm), i ≤ n ∧ i ≤ 20 ∧ q = .int .i64 i ∧ Chd 100 S A i ∧ WHas W m b x (fun A w G => Has W w G m A) S A K0 wr (fun _ => False)) (fun q _ => n - (intOf q).toNat)
  case atStart => exact ⟨0, S0, A0, by omega, by omega, rfl, unhide D0, unhide HW0⟩
  case round =>
    clear D0 HW0
    obtain ⟨i, S, A, hi, hi20, rfl, hd, hw⟩ := hrel
    have HW := hide hw
    have HD := hide hd
    clear hw hd
    by_cases hlt : i < n ∧ i < 20
    · skip
      obtain ⟨xx, off, rfl, hx⟩ : ∃ b off, a = some ⟨b, off, none⟩ ∧ ∀ i, i < n → OOpAt W b (off + i * 4) (o i) := by
        rcases unhide HO with h | h
        · omega
        · exact h
      have hxj := hx i hlt.1
      have R0 := hide (rangeAt_keeps hxj.1 ((WHas.stay (unhide M).toMemL b x S A K0).sz _ _ (unhide HW)) id)
      have hfit := hide hxj.2
      have hin : (i : Int) < (n : Int) := by omega
      have hi20 : (i : Int) < 20 := by omega
      have s4 : (Try.prog.info? 32).map (·.size) = some (o i).cells.length := by show _ = some 4; kernel_rfl
      clear hx hxj
      obtain ⟨kd, id, wd, v, hop⟩ : ∃ kd id wd v, o i = ⟨kd, id, wd, v⟩ := ⟨_, _, _, _, rfl⟩
      rw [hop] at R0 hfit s4
      clear hop
      have R1 : Hid (wr.rangeAt xx (off + i * 4) [.int .i64 kd, .int .i64 id, .int .i64 wd, .int .u64 v]) := unhide R0
      have s4' : (Try.prog.info? 32).map (·.size) = some [Value.int .i64 kd, .int .i64 id, .int .i64 wd, .int .u64 v].length := s4
      have CC := hide ((unhide HW).call fun G' h' => change_any (unhide M).toMemL h' (unhide HD).good.ok (ok_mono (unhide HD).ok (by omega)) kd id wd v (unhide hfit))
      have HD2 := hide ((unhide HD).ch ⟨kd, id, wd, v⟩ (unhide hfit).2.2.2)
      clear R0 s4 HW HD
      generalize chS S A ⟨kd, id, wd, v⟩ = S2 at *
      generalize chM S A ⟨kd, id, wd, v⟩ = A2 at *
      go_wp2_with (with_reducible refine wpList_load_mid (by with_unfolding_all rfl) 32 _ (by with_unfolding_all rfl) xx (off + i * 4) (by with_unfolding_all rfl) [.int .i64 kd, .int .i64 id, .int .i64 wd, .int .u64 v] _ (unhide R1) Try.underlying32 (by with_unfolding_all rfl) s4' ?_)
      refine (unhide CC).mono ?_
      rintro e w2 ⟨rfl, h1, -⟩
      have HW2 := hide h1
      clear h1 CC R1
      go_wp2_with fail
      go_roundw
      case rel => exact ⟨i + 1, S2, A2, by omega, by omega, by go_num, unhide HD2, unhide HW2⟩
      case measure => simp [intOf]; omega
    · have hor : ¬ ((i : Int) < (n : Int)) ∨ ((i : Int) < (n : Int) ∧ ¬ ((i : Int) < 20)) := by omega
      clear hlt HO
      rcases hor with h1 | ⟨h1, h2⟩
      · go_upto_region 9 with fail
        clear h1
        generalize (i : Int) = lasti at *
        have T0 : Hid (Tkn S) := ⟨(unhide HD).good, (unhide HD).is⟩
        have HC := hide (unhide HD).calm
        have HN := hide (unhide HD).n
        have HOK : Hid (A.ok 160) := ok_mono (unhide HD).ok (by omega)
        clear HD
        generalize hSS : S = Sx at *
        clear hSS
        go_loopw [53] (fun _ wq => ∃ S : Sto, Tkn S ∧ WHas W m b x (fun A w G => Has W w G m A) S A K0 wq (fun _ => False)) (fun _ wq => leftW wq b 100)
        case atStart => exact ⟨_, unhide T0, unhide HW⟩
        case round =>
          clear T0 HW
          obtain ⟨S, ht, hw⟩ := hrel
          have HW := hide hw
          have TI := hide ht
          clear hw ht
          have CL := hide (left_obj (unhide HW).rep (unhide TI).good.ok)
          have LW := hide (leftW_is (unhide HW).rep (unhide TI).good.lh (by decide))
          go_wp2_with fail
          refine (unhide CL).mono ?_
          rintro e wb ⟨rfl, rfl⟩
          go_wp2_with fail
          refine (unhide CK _).mono ?_
          rintro e wb ⟨rfl, rfl⟩
          by_cases hgt : kq < S.F.left
          · have hg : (kq : Int) < (S.F.left : Int) := by omega
            have ha : S.F.allocE = 0 := by
              rcases Classical.em (S.F.allocE = 0) with h | h
              · exact h
              · have := left_none h; omega
            have hl := left_alloc ha
            have CT := hide ((unhide HW).call fun G' h' => take_obj (unhide M).toMemL h' (unhide TI).good.ok)
            have TK := hide (unhide TI).took
            generalize S.F.allocE = ae at *
            generalize S.F.allocV = av at *
            go_wp2_with fail
            refine (unhide CT).mono ?_
            rintro e w5 ⟨rfl, h1, h2⟩
            have HNw := hide h1
            have LW2 := hide (leftW_is h1.rep (unhide TK).good.lh (by decide))
            clear h1 h2 CT
            go_wp2_with fail
            go_roundw
            case rel => exact ⟨_, unhide TK, unhide HNw⟩
            case measure => rw [unhide LW2, unhide LW]; show S.F.allocA.left < _; omega
          · have hg : ¬ ((kq : Int) < (S.F.left : Int)) := by omega
            clear CL LW CK hgt
            generalize (S.F.left : Int) = lfi at *
            generalize (kq : Int) = ddd at *
            have T1 := hide (WHas.stay (unhide M).toMemL b x S A K0)
            have CB := hide (base_obj (unhide HW).rep)
            have O0 := hide (Held.start (unhide T1) (unhide HW))
            have CT := hide (fun w' (h : SRep m S w' b) => table_obj h)
            have sb := s147_tab S.b
            have sw := s147_tab S.w
            have sd := s8_dir S.d
            have ZT := hide zero_tab
            have ZD := hide zero_dirz
            have Xb := hide (tabV_one S.b)
            have Xw := hide (tabV_one S.w)
            have Xd := hide (dirV_one S.d)
            have SZb : Hid ((tabV fun _ => ze).size = (tabV S.b).size) := by show _ = _; rw [tabV_size, tabV_size]
            have SZw : Hid ((tabV fun _ => ze).size = (tabV S.w).size) := by show _ = _; rw [tabV_size, tabV_size]
            have SZd : Hid ((dirV fun _ => 0).size = (dirV S.d).size) := by show _ = _; rw [dirV_size, dirV_size]
            have EQb := hide (fun (w : World) => zequal_tab S.b w)
            have EQw := hide (fun (w : World) => zequal_tab S.w w)
            have EQd := hide (fun (w : World) => zequal_dir S.d w)
            generalize hTB : tabV S.b = TB at *
            generalize hTW : tabV S.w = TW at *
            generalize hDV : dirV S.d = DV at *
            have HTB := hide hTB
            have HTW := hide hTW
            have HDV := hide hDV
            clear hTB hTW hDV
            generalize (tabV fun _ => ze) = ZTV at *
            generalize hZD : (dirV fun _ => 0) = ZDV at *
            have HZD := hide hZD
            clear hZD
            go_wp2_with fail
            refine (unhide CB).mono ?_
            rintro e w4 ⟨rfl, hb⟩
            have O3 := hide ((unhide O0).below (unhide T1) hb)
            obtain ⟨p1, p2, p3, p4⟩ := (unhide O3).pair (unhide T1) ZTV TB 41 ZDV DV 43
            have O7 := hide p1
            have H8 := hide p2
            have H9 := hide p3
            have H9' : Hid ((((w4.alloc (.cells ZTV 41)).alloc (.cells ZDV 43)).setRow w4.heap.size TB).heap[(w4.alloc (.cells ZTV 41)).heap.size]? = some (.cells ZDV 43 (0, 0))) := by show _ = _; rw [p4]; exact p3
            have E9 := hide p4
            clear hb O0 O3 CB p1 p2 p3 p4 HW
            go_upto_region 12 with (first | (with_reducible refine wpList_allocZ (by with_unfolding_all rfl) 41 (by with_unfolding_all rfl) ZTV (unhide ZT) ?_) | (with_reducible refine wpList_allocZ (by with_unfolding_all rfl) 43 (by with_unfolding_all rfl) ZDV (unhide ZD) ?_) | (with_reducible refine wpList_store_row (by with_unfolding_all rfl) 41 _ _ (by with_unfolding_all rfl) w4.heap.size TB (by with_unfolding_all rfl) (by with_unfolding_all rfl) 41 ZTV (unhide H8) sb (unhide SZb) (unhide Xb) ?_) | (with_reducible refine wpList_store_row (by with_unfolding_all rfl) 43 _ _ (by with_unfolding_all rfl) (w4.heap.size + 1) DV (by with_unfolding_all rfl) (by with_unfolding_all rfl) 43 ZDV (unhide H9) sd (unhide SZd) (unhide Xd) ?_) | (with_reducible refine wpList_store_row (by with_unfolding_all rfl) 43 _ _ (by with_unfolding_all rfl) (w4.alloc (.cells ZTV 41)).heap.size DV (by with_unfolding_all rfl) (by with_unfolding_all rfl) 43 ZDV (unhide H9') sd (unhide SZd) (unhide Xd) ?_))
            try rw [unhide E9]
            clear H8 H9 H9' E9
            obtain ⟨g10, hg10⟩ : ∃ g, g = w4.heap.size := ⟨_, rfl⟩
            rw [← hg10] at O7 ⊢
            clear hg10
            generalize (((w4.alloc (.cells ZTV 41)).alloc (.cells ZDV 43)).setRow g10 TB).setRow (g10 + 1) DV = w5 at *
            have CTT := hide (unhide CT _ (unhide O7).st.rep)
            go_wp2_with fail
            refine (unhide CTT).mono ?_
            rintro e w6 ⟨rfl, hb⟩
            have O8 := hide (((unhide O7).below (unhide T1) hb).alloc (unhide T1) (.cells TW 41))
            clear hb O7 CTT CT
            go_upto_region 13 with (first | (with_reducible refine wpList_allocZ (by with_unfolding_all rfl) 41 (by with_unfolding_all rfl) ZTV (unhide ZT) ?_) | (with_reducible refine wpList_store_row (by with_unfolding_all rfl) 41 _ _ (by with_unfolding_all rfl) w6.heap.size TW (by with_unfolding_all rfl) (by with_unfolding_all rfl) 41 ZTV (heap_new w6 _) sw (unhide SZw) (unhide Xw) ?_; rw [setRow_alloc]))
            obtain ⟨g12, hg12⟩ : ∃ g, g = w6.heap.size := ⟨_, rfl⟩
            rw [← hg12] at O8 ⊢
            clear hg12
            generalize w6.alloc (.cells TW 41) = w7 at *
            obtain ⟨s1, s2⟩ := Ph.start (N := 100) (fr := false) (A0 := A) (K0 := K0) (z := 1) (unhide TI).good (unhide HC) (unhide HN) (unhide hK0).1 (unhide hK0).2.1 ⟨by decide, by decide⟩ (unhide TI).is (fun h => by cases h)
            have hn59 := stepsOf_len S.w S.b
            have HP := hide s2
            have CBg := hide (wbegin_any (unhide M) (unhide O8).st 1)
            rw [s1] at CBg
            clear s1 s2 TI T1
            generalize (stepsOf S.w S.b).length = n0 at *
            generalize K0.beginS S 1 = S1 at *
            generalize K0.beginK S 1 = K1 at *
            go_wp2_with fail
            refine (unhide CBg).mono ?_
            rintro e w8 ⟨rfl, h1, h2⟩
            have O9 := hide ((unhide O8).call (St' := WHas W m b x (fun A w G => Has W w G m A) S1 A K1) h1 h2)
            clear h1 h2 O8 CBg
            go_wp2_with fail
            go_loopw [13, 14] (fun ev q wq => ∃ (j : Nat) (S' : Sto) (A' : Mm) (K' : Wk) (E : Int) (l : Nat), j + l ≤ n0 ∧ q = .int .i64 j ∧ ev = .int .i64 E ∧ Ph 100 false S A K0 S' A' K' E l ∧ A'.ok (160 + 11 * j) ∧ Held W (WHas W m b x (fun A w G => Has W w G m A) S' A' K') wb wq (fun _ => False) [(g12, .cells TW 41), (g10 + 1, .cells DV 43), (g10, .cells TB 41)]) (fun _ q _ => n0 - (intOf q).toNat)
            case atStart => exact ⟨0, S1, A, K1, 0, n0, by omega, rfl, rfl, unhide HP, unhide HOK, unhide O9⟩
            case round =>
              clear O9 HP HOK
              obtain ⟨j, S', A', K', E, l, hj, rfl, rfl, hp, hok, hh⟩ := hrel
              have HH := hide hh
              have HP := hide hp
              have HOK := hide hok
              clear hh hp hok
              have hlen := (unhide HP).len
              have CL := hide ((unhide HH).st.left)
              rw [hlen] at CL
              clear hlen
              have hj60 : (j : Int) < 60 := by omega
              cases l with
              | zero =>
                go_wp2_with fail
                refine (unhide CL).mono ?_
                rintro e wq ⟨rfl, rfl⟩
                clear CL
                go_upto_region 20 with fail
                clear hj60
                generalize (j : Int) = lastj at *
                have T2 := hide (WHas.stay (unhide M).toMemL b x S' A' K')
                have CB := hide (base_obj (unhide HH).st.rep)
                have hTW' : tabV S'.w = TW := by rw [(unhide HP).1.w]; exact unhide HTW
                have CTw := hide (fun w' (h : SRep m S' w' b) => table_obj h)
                rw [hTW'] at CTw
                clear hTW'
                rcases (unhide HP).2 with ⟨_, h1, u⟩ | ⟨rfl, _, h1⟩ | ⟨_, rfl, _, h1⟩
                · exact absurd (List.eq_nil_of_length_eq_zero h1.symm) u.ne
                · have hTB' : tabV S'.b = TW := by rw [h1.b]; exact unhide HTW
                  rw [hTB'] at CB
                  have sX := sw
                  have XX := Xw
                  have SZX := SZw
                  have sD2 := s8_dir S'.d
                  have XD2 := hide (dirV_one S'.d)
                  have SZD2 : Hid (ZDV.size = (dirV S'.d).size) := by show _ = _; rw [← unhide HZD, dirV_size, dirV_size]
                  clear hTB' h1 HP HOK
                  generalize dirV S'.d = DX at *
                  obtain ⟨TX, hTX⟩ : ∃ TX, TX = TW := ⟨_, rfl⟩
                  have HTX := hide hTX
                  clear hTX
                  rw [← unhide HTX] at CB sX XX SZX
                  go_wp2_with fail
                  refine (unhide CB).mono ?_
                  rintro e w4 ⟨rfl, hb⟩
                  have O3 := hide ((unhide HH).below (unhide T2) hb)
                  obtain ⟨p1, p2, p3, p4⟩ := (unhide O3).pair (unhide T2) ZTV TX 41 ZDV DX 43
                  have O7 := hide p1
                  have H8 := hide p2
                  have H9 := hide p3
                  have H9' : Hid ((((w4.alloc (.cells ZTV 41)).alloc (.cells ZDV 43)).setRow w4.heap.size TX).heap[(w4.alloc (.cells ZTV 41)).heap.size]? = some (.cells ZDV 43 (0, 0))) := by show _ = _; rw [p4]; exact p3
                  have E9 := hide p4
                  clear hb O3 CB p1 p2 p3 p4 HH
                  go_upto_region 21 with (first | (with_reducible refine wpList_allocZ (by with_unfolding_all rfl) 41 (by with_unfolding_all rfl) ZTV (unhide ZT) ?_) | (with_reducible refine wpList_allocZ (by with_unfolding_all rfl) 43 (by with_unfolding_all rfl) ZDV (unhide ZD) ?_) | (with_reducible refine wpList_store_row (by with_unfolding_all rfl) 41 _ _ (by with_unfolding_all rfl) w4.heap.size TX (by with_unfolding_all rfl) (by with_unfolding_all rfl) 41 ZTV (unhide H8) sX (unhide SZX) (unhide XX) ?_) | (with_reducible refine wpList_store_row (by with_unfolding_all rfl) 43 _ _ (by with_unfolding_all rfl) (w4.heap.size + 1) DX (by with_unfolding_all rfl) (by with_unfolding_all rfl) 43 ZDV (unhide H9) sD2 (unhide SZD2) (unhide XD2) ?_) | (with_reducible refine wpList_store_row (by with_unfolding_all rfl) 43 _ _ (by with_unfolding_all rfl) (w4.alloc (.cells ZTV 41)).heap.size DX (by with_unfolding_all rfl) (by with_unfolding_all rfl) 43 ZDV (unhide H9') sD2 (unhide SZD2) (unhide XD2) ?_))
                  try rw [unhide E9]
                  clear H8 H9 H9' E9
                  obtain ⟨g15, hg15⟩ : ∃ g, g = w4.heap.size := ⟨_, rfl⟩
                  rw [← hg15] at O7 ⊢
                  clear hg15
                  generalize (((w4.alloc (.cells ZTV 41)).alloc (.cells ZDV 43)).setRow g15 TX).setRow (g15 + 1) DX = w5 at *
                  have O8 := hide ((unhide O7).drew (unhide T2))
                  have RG : Hid (∀ (wx : World), Held W (WHas W m b x (fun A w G => Has W w G m A) S' A' K') wb wx (fun _ => False) [(g15 + 1, .cells DX 43), (g15, .cells TX 41), (g12, .cells TW 41), (g10 + 1, .cells DV 43), (g10, .cells TB 41)] → wx.rangeAt g15 0 TW.toList ∧ wx.rangeAt g12 0 TW.toList) := fun wx O => ⟨fun j v hv => by
                    rw [cell_of_block (O.at g15 (.cells TX 41) (by simp)), Nat.zero_add, unhide HTX, ← Array.getElem?_toList]; exact hv, fun j v hv => by
                    rw [cell_of_block (O.at g12 (.cells TW 41) (by simp)), Nat.zero_add, ← Array.getElem?_toList]; exact hv⟩
                  have stl : (Try.prog.info? 41).map (·.size) = some TW.toList.length := by rw [Array.length_toList]; exact sw
                  go_upto_region 22 with fail
                  refine wp_region_noPanic ?_
                  refine wp_region_held_drew (S := fun w' => w'.rangeAt g15 0 TW.toList ∧ w'.rangeAt g12 0 TW.toList) (by kernel_rfl) (unhide RG _ (unhide O8)) (fun hHeld => ?_)
                  clear O7
                  generalize w5.drew = w6 at *
                  refine take_at 0 89 rfl rfl (by kernel_rfl) (by kernel_rfl) (by kernel_rfl) (yieldsIf_load_mid (by rfl) 41 _ rfl g15 0 rfl TW.toList _ (fun w' h => h.1) Try.underlying41 rfl stl) hHeld ?_
                  simp only [Act.put, List.setIfInBounds_toArray, List.set_cons_zero, List.set_cons_succ]
                  refine take_at 1 90 rfl rfl (by kernel_rfl) (by kernel_rfl) (by kernel_rfl) (yieldsIf_load_mid (by rfl) 41 _ rfl g12 0 rfl TW.toList _ (fun w' h => h.2) Try.underlying41 rfl stl) hHeld ?_
                  simp only [Act.put, List.setIfInBounds_toArray, List.set_cons_zero, List.set_cons_succ]
                  refine take_at 2 91 rfl rfl (by kernel_rfl) (by kernel_rfl) (by kernel_rfl) (yieldsIf_eql (by rfl) 41 _ (.tmp 89) (.tmp 90) rfl TW TW rfl rfl ztab_guard true (unhide EQw)) hHeld ?_
                  simp only [Act.put, List.setIfInBounds_toArray, List.set_cons_zero, List.set_cons_succ]
                  refine take_at 3 92 (v := ?_) rfl rfl (by kernel_rfl) (by kernel_rfl) (by kernel_rfl) (Or.inl ⟨by rfl, ?_⟩) hHeld ?_
                  rotate_left
                  · intro w hSw; go_simp; with_reducible rfl
                  simp only [Act.put, List.setIfInBounds_toArray, List.set_cons_zero, List.set_cons_succ]
                  refine take_at 4 93 (v := ?_) rfl rfl (by kernel_rfl) (by kernel_rfl) (by kernel_rfl) (Or.inl ⟨by rfl, ?_⟩) hHeld ?_
                  rotate_left
                  · intro w hSw; go_simp; with_reducible rfl
                  simp only [Act.put, List.setIfInBounds_toArray, List.set_cons_zero, List.set_cons_succ]
                  refine take_at 6 95 rfl rfl (by kernel_rfl) (by kernel_rfl) (by kernel_rfl) (yieldsIf_load_mid (by rfl) 41 _ rfl g12 0 rfl TW.toList _ (fun w' h => h.2) Try.underlying41 rfl stl) hHeld ?_
                  simp only [Act.put, List.setIfInBounds_toArray, List.set_cons_zero, List.set_cons_succ]
                  refine wpAnyH_ready (rs := [5]) (by kernel_rfl) (by simp) ?_
                  refine AllReadyH.cons rfl (fun K9 hK => ?_) AllReadyH.nil
                  go_simp
                  refine (unhide CTw _ (unhide O8).st.rep).mono ?_
                  rintro e w7 ⟨rfl, hb⟩
                  have O9 := hide ((unhide O8).below (unhide T2) hb)
                  clear hb O8 CTw
                  go_wp2_with fail
                  refine hK.out _ _ (unhide RG _ (unhide O9)) (fun hNew => ?_)
                  clear hK K9 hHeld
                  have hHeld := hNew
                  clear hNew
                  refine take_at 7 96 rfl rfl (by kernel_rfl) (by kernel_rfl) (by kernel_rfl) (yieldsIf_eql (by rfl) 41 _ (.tmp 94) (.tmp 95) rfl TW TW rfl rfl ztab_guard true (unhide EQw)) hHeld ?_
                  simp only [Act.put, List.setIfInBounds_toArray, List.set_cons_zero, List.set_cons_succ]
                  refine take_at 8 97 (v := ?_) rfl rfl (by kernel_rfl) (by kernel_rfl) (by kernel_rfl) (Or.inl ⟨by rfl, ?_⟩) hHeld ?_
                  rotate_left
                  · intro w hSw; go_simp; with_reducible rfl
                  simp only [Act.put, List.setIfInBounds_toArray, List.set_cons_zero, List.set_cons_succ]
                  refine take_at 9 4 (v := ?_) rfl rfl (by kernel_rfl) (by kernel_rfl) (by kernel_rfl) (Or.inl ⟨by rfl, ?_⟩) hHeld ?_
                  rotate_left
                  · intro w hSw; go_simp; with_reducible rfl
                  simp only [Act.put, List.setIfInBounds_toArray, List.set_cons_zero, List.set_cons_succ]
                  refine wpAnyH_done (by kernel_rfl) ?_ _
                  refine NoPanic.normal ?_
                  have KF := hide ((unhide T2).sz _ _ (unhide O9).st)
                  clear hHeld RG stl
                  go_wp2_with fail
                  go_ret
                  exact ⟨rfl, (unhide KF).below (Nat.le_refl _) (fun _ h => h.elim)⟩
                · have hTB' : tabV S'.b = TB := by rw [h1.b]; exact unhide HTB
                  have hDV' : dirV S'.d = DV := by rw [h1.d]; exact unhide HDV
                  rw [hTB', hDV'] at CB
                  have sX := sb
                  have XX := Xb
                  have SZX := SZb
                  have sD2 := sd
                  have XD2 := Xd
                  have SZD2 := SZd
                  have CMk := hide (fun w' (h : SRep m S' w' b) => marked_obj h)
                  have hGn := hide h1
                  have hL0 : Hid (K'.l.length = 0) := by show _ = _; rw [h1.l]; rfl
                  have hB2 := hide (begin_again h1 (unhide hK0).2.2)
                  have CBg := hide (fun w' G' (h : WHas W m b x (fun A w G => Has W w G m A) S' A' K' w' G') => wbegin_any (unhide M) h 2)
                  rw [unhide hB2] at CBg
                  rw [h1.is] at CMk
                  clear hTB' hDV' h1 HP HOK
                  obtain ⟨TX, hTX⟩ : ∃ TX, TX = TB := ⟨_, rfl⟩
                  obtain ⟨DX, hDX⟩ : ∃ DX, DX = DV := ⟨_, rfl⟩
                  have HTX := hide hTX
                  have HDX := hide hDX
                  clear hTX hDX
                  rw [← unhide HTX] at CB sX XX SZX
                  rw [← unhide HDX] at CB sD2 XD2 SZD2
                  go_wp2_with fail
                  refine (unhide CB).mono ?_
                  rintro e w4 ⟨rfl, hb⟩
                  have O3 := hide ((unhide HH).below (unhide T2) hb)
                  obtain ⟨p1, p2, p3, p4⟩ := (unhide O3).pair (unhide T2) ZTV TX 41 ZDV DX 43
                  have O7 := hide p1
                  have H8 := hide p2
                  have H9 := hide p3
                  have H9' : Hid ((((w4.alloc (.cells ZTV 41)).alloc (.cells ZDV 43)).setRow w4.heap.size TX).heap[(w4.alloc (.cells ZTV 41)).heap.size]? = some (.cells ZDV 43 (0, 0))) := by show _ = _; rw [p4]; exact p3
                  have E9 := hide p4
                  clear hb O3 CB p1 p2 p3 p4 HH
                  go_upto_region 21 with (first | (with_reducible refine wpList_allocZ (by with_unfolding_all rfl) 41 (by with_unfolding_all rfl) ZTV (unhide ZT) ?_) | (with_reducible refine wpList_allocZ (by with_unfolding_all rfl) 43 (by with_unfolding_all rfl) ZDV (unhide ZD) ?_) | (with_reducible refine wpList_store_row (by with_unfolding_all rfl) 41 _ _ (by with_unfolding_all rfl) w4.heap.size TX (by with_unfolding_all rfl) (by with_unfolding_all rfl) 41 ZTV (unhide H8) sX (unhide SZX) (unhide XX) ?_) | (with_reducible refine wpList_store_row (by with_unfolding_all rfl) 43 _ _ (by with_unfolding_all rfl) (w4.heap.size + 1) DX (by with_unfolding_all rfl) (by with_unfolding_all rfl) 43 ZDV (unhide H9) sD2 (unhide SZD2) (unhide XD2) ?_) | (with_reducible refine wpList_store_row (by with_unfolding_all rfl) 43 _ _ (by with_unfolding_all rfl) (w4.alloc (.cells ZTV 41)).heap.size DX (by with_unfolding_all rfl) (by with_unfolding_all rfl) 43 ZDV (unhide H9') sD2 (unhide SZD2) (unhide XD2) ?_))
                  try rw [unhide E9]
                  clear H8 H9 H9' E9
                  obtain ⟨g15, hg15⟩ : ∃ g, g = w4.heap.size := ⟨_, rfl⟩
                  rw [← hg15] at O7 ⊢
                  clear hg15
                  generalize (((w4.alloc (.cells ZTV 41)).alloc (.cells ZDV 43)).setRow g15 TX).setRow (g15 + 1) DX = w5 at *
                  have CMw := hide (unhide CMk _ (unhide O7).st.rep)
                  have sk := s147_tab S'.k
                  have Xk := hide (tabV_one S'.k)
                  have SZk : Hid (ZTV.size = (tabV S'.k).size) := by show _ = _; rw [tabV_size, unhide SZw, ← unhide HTW, tabV_size]
                  generalize tabV S'.k = TK at *
                  have hE10 : ((10 : Int) == 0) = false := by decide
                  go_wp2_with fail
                  refine (unhide CMw).mono ?_
                  rintro e w6 ⟨rfl, hb⟩
                  have O8 := hide (((unhide O7).below (unhide T2) hb).alloc (unhide T2) (.cells TK 41))
                  clear hb O7 CMw CMk
                  go_upto_region 24 with (first | (with_reducible refine wpList_allocZ (by with_unfolding_all rfl) 41 (by with_unfolding_all rfl) ZTV (unhide ZT) ?_) | (with_reducible refine wpList_store_row (by with_unfolding_all rfl) 41 _ _ (by with_unfolding_all rfl) w6.heap.size TK (by with_unfolding_all rfl) (by with_unfolding_all rfl) 41 ZTV (heap_new w6 _) sk (unhide SZk) (unhide Xk) ?_; rw [setRow_alloc]))
                  generalize w6.alloc (.cells TK 41) = w7 at *
                  have O9 := hide (((unhide O8).less (unhide T2) (L' := [(g15 + 1, .cells DX 43), (g15, .cells TX 41), (g12, .cells TW 41), (g10 + 1, .cells DV 43), (g10, .cells TB 41)]) (by simp)).drew (unhide T2))
                  have RG : Hid (∀ (S9 : World → (Nat → Prop) → Prop) (wx : World), Held W S9 wb wx (fun _ => False) [(g15 + 1, .cells DX 43), (g15, .cells TX 41), (g12, .cells TW 41), (g10 + 1, .cells DV 43), (g10, .cells TB 41)] → wx.rangeAt g15 0 TB.toList ∧ wx.rangeAt g10 0 TB.toList ∧ wx.rangeAt (g15 + 1) 0 DV.toList ∧ wx.rangeAt (g10 + 1) 0 DV.toList ∧ wx.rangeAt g12 0 TW.toList) := fun S9 wx O => ⟨fun j v hv => by
                    rw [cell_of_block (O.at g15 (.cells TX 41) (by simp)), Nat.zero_add, unhide HTX, ← Array.getElem?_toList]; exact hv, fun j v hv => by
                    rw [cell_of_block (O.at g10 (.cells TB 41) (by simp)), Nat.zero_add, ← Array.getElem?_toList]; exact hv, fun j v hv => by
                    rw [cell_of_block (O.at (g15 + 1) (.cells DX 43) (by simp)), Nat.zero_add, unhide HDX, ← Array.getElem?_toList]; exact hv, fun j v hv => by
                    rw [cell_of_block (O.at (g10 + 1) (.cells DV 43) (by simp)), Nat.zero_add, ← Array.getElem?_toList]; exact hv, fun j v hv => by
                    rw [cell_of_block (O.at g12 (.cells TW 41) (by simp)), Nat.zero_add, ← Array.getElem?_toList]; exact hv⟩
                  have stl : (Try.prog.info? 41).map (·.size) = some TW.toList.length := by rw [Array.length_toList]; exact sw
                  have sbl : (Try.prog.info? 41).map (·.size) = some TB.toList.length := by rw [Array.length_toList]; exact sb
                  have sdl : (Try.prog.info? 43).map (·.size) = some DV.toList.length := by rw [Array.length_toList]; exact sd
                  refine wp_region_noPanic ?_
                  refine wp_region_held_drew (S := fun w' => w'.rangeAt g15 0 TB.toList ∧ w'.rangeAt g10 0 TB.toList ∧ w'.rangeAt (g15 + 1) 0 DV.toList ∧ w'.rangeAt (g10 + 1) 0 DV.toList ∧ w'.rangeAt g12 0 TW.toList) (by kernel_rfl) (unhide RG _ _ (unhide O9)) (fun hHeld => ?_)
                  clear O8
                  generalize w7.drew = w8 at *
                  refine take_at 0 103 (v := ?_) rfl rfl (by kernel_rfl) (by kernel_rfl) (by kernel_rfl) (Or.inl ⟨by rfl, ?_⟩) hHeld ?_
                  rotate_left
                  · intro w hSw; go_simp; with_reducible rfl
                  simp only [Act.put, List.setIfInBounds_toArray, List.set_cons_zero, List.set_cons_succ]
                  refine take_at 1 104 (v := ?_) rfl rfl (by kernel_rfl) (by kernel_rfl) (by kernel_rfl) (Or.inl ⟨by rfl, ?_⟩) hHeld ?_
                  rotate_left
                  · intro w hSw; go_simp; with_reducible rfl
                  simp only [Act.put, List.setIfInBounds_toArray, List.set_cons_zero, List.set_cons_succ]
                  refine take_at 2 105 (v := ?_) rfl rfl (by kernel_rfl) (by kernel_rfl) (by kernel_rfl) (Or.inl ⟨by rfl, ?_⟩) hHeld ?_
                  rotate_left
                  · intro w hSw; go_simp; with_reducible rfl
                  simp only [Act.put, List.setIfInBounds_toArray, List.set_cons_zero, List.set_cons_succ]
                  refine take_at 3 106 rfl rfl (by kernel_rfl) (by kernel_rfl) (by kernel_rfl) (yieldsIf_load_mid (by rfl) 41 _ rfl g15 0 rfl TB.toList _ (fun w' h => h.1) Try.underlying41 rfl sbl) hHeld ?_
                  simp only [Act.put, List.setIfInBounds_toArray, List.set_cons_zero, List.set_cons_succ]
                  refine take_at 4 107 rfl rfl (by kernel_rfl) (by kernel_rfl) (by kernel_rfl) (yieldsIf_load_mid (by rfl) 41 _ rfl g10 0 rfl TB.toList _ (fun w' h => h.2.1) Try.underlying41 rfl sbl) hHeld ?_
                  simp only [Act.put, List.setIfInBounds_toArray, List.set_cons_zero, List.set_cons_succ]
                  refine take_at 5 108 rfl rfl (by kernel_rfl) (by kernel_rfl) (by kernel_rfl) (yieldsIf_eql (by rfl) 41 _ (.tmp 106) (.tmp 107) rfl TB TB rfl rfl ztab_guard true (unhide EQb)) hHeld ?_
                  simp only [Act.put, List.setIfInBounds_toArray, List.set_cons_zero, List.set_cons_succ]
                  refine take_at 6 109 (v := ?_) rfl rfl (by kernel_rfl) (by kernel_rfl) (by kernel_rfl) (Or.inl ⟨by rfl, ?_⟩) hHeld ?_
                  rotate_left
                  · intro w hSw; go_simp; with_reducible rfl
                  simp only [Act.put, List.setIfInBounds_toArray, List.set_cons_zero, List.set_cons_succ]
                  refine take_at 7 110 (v := ?_) rfl rfl (by kernel_rfl) (by kernel_rfl) (by kernel_rfl) (Or.inl ⟨by rfl, ?_⟩) hHeld ?_
                  rotate_left
                  · intro w hSw; go_simp; with_reducible rfl
                  simp only [Act.put, List.setIfInBounds_toArray, List.set_cons_zero, List.set_cons_succ]
                  refine take_at 8 111 rfl rfl (by kernel_rfl) (by kernel_rfl) (by kernel_rfl) (yieldsIf_load_mid (by rfl) 43 _ rfl (g15 + 1) 0 rfl DV.toList _ (fun w' h => h.2.2.1) Try.underlying43 rfl sdl) hHeld ?_
                  simp only [Act.put, List.setIfInBounds_toArray, List.set_cons_zero, List.set_cons_succ]
                  refine take_at 9 112 rfl rfl (by kernel_rfl) (by kernel_rfl) (by kernel_rfl) (yieldsIf_load_mid (by rfl) 43 _ rfl (g10 + 1) 0 rfl DV.toList _ (fun w' h => h.2.2.2.1) Try.underlying43 rfl sdl) hHeld ?_
                  simp only [Act.put, List.setIfInBounds_toArray, List.set_cons_zero, List.set_cons_succ]
                  refine take_at 10 113 rfl rfl (by kernel_rfl) (by kernel_rfl) (by kernel_rfl) (yieldsIf_eql (by rfl) 43 _ (.tmp 111) (.tmp 112) rfl DV DV rfl rfl zdir_guard true (unhide EQd)) hHeld ?_
                  simp only [Act.put, List.setIfInBounds_toArray, List.set_cons_zero, List.set_cons_succ]
                  refine take_at 11 114 (v := ?_) rfl rfl (by kernel_rfl) (by kernel_rfl) (by kernel_rfl) (Or.inl ⟨by rfl, ?_⟩) hHeld ?_
                  rotate_left
                  · intro w hSw; go_simp; with_reducible rfl
                  simp only [Act.put, List.setIfInBounds_toArray, List.set_cons_zero, List.set_cons_succ]
                  refine take_at 12 115 (v := ?_) rfl rfl (by kernel_rfl) (by kernel_rfl) (by kernel_rfl) (Or.inl ⟨by rfl, ?_⟩) hHeld ?_
                  rotate_left
                  · intro w hSw; go_simp; with_reducible rfl
                  simp only [Act.put, List.setIfInBounds_toArray, List.set_cons_zero, List.set_cons_succ]
                  refine take_at 13 116 (v := ?_) rfl rfl (by kernel_rfl) (by kernel_rfl) (by kernel_rfl) (Or.inl ⟨by rfl, ?_⟩) hHeld ?_
                  rotate_left
                  · intro w hSw; go_simp; with_reducible rfl
                  simp only [Act.put, List.setIfInBounds_toArray, List.set_cons_zero, List.set_cons_succ]
                  refine take_at 15 118 rfl rfl (by kernel_rfl) (by kernel_rfl) (by kernel_rfl) (yieldsIf_load_mid (by rfl) 41 _ rfl g12 0 rfl TW.toList _ (fun w' h => h.2.2.2.2) Try.underlying41 rfl stl) hHeld ?_
                  simp only [Act.put, List.setIfInBounds_toArray, List.set_cons_zero, List.set_cons_succ]
                  refine wpAnyH_ready (rs := [14]) (by kernel_rfl) (by simp) ?_
                  refine AllReadyH.cons rfl (fun K9 hK => ?_) AllReadyH.nil
                  go_simp
                  refine (unhide CTw _ (unhide O9).st.rep).mono ?_
                  rintro e w9 ⟨rfl, hb⟩
                  have O10 := hide ((unhide O9).below (unhide T2) hb)
                  clear hb O9 CTw
                  go_wp2_with fail
                  refine hK.out _ _ (unhide RG _ _ (unhide O10)) (fun hNew => ?_)
                  clear hK K9 hHeld
                  have hHeld := hNew
                  clear hNew
                  refine take_at 16 119 rfl rfl (by kernel_rfl) (by kernel_rfl) (by kernel_rfl) (yieldsIf_eql (by rfl) 41 _ (.tmp 117) (.tmp 118) rfl TW TW rfl rfl ztab_guard true (unhide EQw)) hHeld ?_
                  simp only [Act.put, List.setIfInBounds_toArray, List.set_cons_zero, List.set_cons_succ]
                  refine take_at 17 120 (v := ?_) rfl rfl (by kernel_rfl) (by kernel_rfl) (by kernel_rfl) (Or.inl ⟨by rfl, ?_⟩) hHeld ?_
                  rotate_left
                  · intro w hSw; go_simp; with_reducible rfl
                  simp only [Act.put, List.setIfInBounds_toArray, List.set_cons_zero, List.set_cons_succ]
                  refine take_at 18 121 (v := ?_) rfl rfl (by kernel_rfl) (by kernel_rfl) (by kernel_rfl) (Or.inl ⟨by rfl, ?_⟩) hHeld ?_
                  rotate_left
                  · intro w hSw; go_simp; with_reducible rfl
                  simp only [Act.put, List.setIfInBounds_toArray, List.set_cons_zero, List.set_cons_succ]
                  refine take_at 19 122 (v := ?_) rfl rfl (by kernel_rfl) (by kernel_rfl) (by kernel_rfl) (Or.inl ⟨by rfl, ?_⟩) hHeld ?_
                  rotate_left
                  · intro w hSw; go_simp; with_reducible rfl
                  simp only [Act.put, List.setIfInBounds_toArray, List.set_cons_zero, List.set_cons_succ]
                  have CLz := hide ((unhide O10).st.left)
                  rw [unhide hL0] at CLz
                  refine wpAnyH_ready (rs := [20]) (by kernel_rfl) (by simp) ?_
                  refine AllReadyH.cons rfl (fun K9 hK => ?_) AllReadyH.nil
                  go_simp
                  refine (unhide CLz).mono ?_
                  rintro e w9 ⟨rfl, rfl⟩
                  go_wp2_with fail
                  refine hK.out _ _ hHeld (fun hNew => ?_)
                  clear hK K9 hNew CLz
                  refine take_at 21 124 (v := ?_) rfl rfl (by kernel_rfl) (by kernel_rfl) (by kernel_rfl) (Or.inl ⟨by rfl, ?_⟩) hHeld ?_
                  rotate_left
                  · intro w hSw; go_simp; with_reducible rfl
                  simp only [Act.put, List.setIfInBounds_toArray, List.set_cons_zero, List.set_cons_succ]
                  refine take_at 22 125 (v := ?_) rfl rfl (by kernel_rfl) (by kernel_rfl) (by kernel_rfl) (Or.inl ⟨by rfl, ?_⟩) hHeld ?_
                  rotate_left
                  · intro w hSw; go_simp; with_reducible rfl
                  simp only [Act.put, List.setIfInBounds_toArray, List.set_cons_zero, List.set_cons_succ]
                  refine take_at 23 126 (v := ?_) rfl rfl (by kernel_rfl) (by kernel_rfl) (by kernel_rfl) (Or.inl ⟨by rfl, ?_⟩) hHeld ?_
                  rotate_left
                  · intro w hSw; go_simp; with_reducible rfl
                  simp only [Act.put, List.setIfInBounds_toArray, List.set_cons_zero, List.set_cons_succ]
                  refine take_at 24 127 (v := ?_) rfl rfl (by kernel_rfl) (by kernel_rfl) (by kernel_rfl) (Or.inl ⟨by rfl, ?_⟩) hHeld ?_
                  rotate_left
                  · intro w hSw; go_simp; with_reducible rfl
                  simp only [Act.put, List.setIfInBounds_toArray, List.set_cons_zero, List.set_cons_succ]
                  refine take_at 25 128 (v := ?_) rfl rfl (by kernel_rfl) (by kernel_rfl) (by kernel_rfl) (Or.inl ⟨by rfl, ?_⟩) hHeld ?_
                  rotate_left
                  · intro w hSw; go_simp; with_reducible rfl
                  simp only [Act.put, List.setIfInBounds_toArray, List.set_cons_zero, List.set_cons_succ]
                  refine take_at 26 129 (v := ?_) rfl rfl (by kernel_rfl) (by kernel_rfl) (by kernel_rfl) (Or.inl ⟨by rfl, ?_⟩) hHeld ?_
                  rotate_left
                  · intro w hSw; go_simp; with_reducible rfl
                  simp only [Act.put, List.setIfInBounds_toArray, List.set_cons_zero, List.set_cons_succ]
                  refine take_at 27 130 (v := ?_) rfl rfl (by kernel_rfl) (by kernel_rfl) (by kernel_rfl) (Or.inl ⟨by rfl, ?_⟩) hHeld ?_
                  rotate_left
                  · intro w hSw; go_simp; with_reducible rfl
                  simp only [Act.put, List.setIfInBounds_toArray, List.set_cons_zero, List.set_cons_succ]
                  refine take_at 28 131 (v := ?_) rfl rfl (by kernel_rfl) (by kernel_rfl) (by kernel_rfl) (Or.inl ⟨by rfl, ?_⟩) hHeld ?_
                  rotate_left
                  · intro w hSw; go_simp; with_reducible rfl
                  simp only [Act.put, List.setIfInBounds_toArray, List.set_cons_zero, List.set_cons_succ]
                  refine wpAnyH_ready (rs := [29]) (by kernel_rfl) (by simp) ?_
                  refine AllReadyH.cons rfl (fun K9 hK => ?_) AllReadyH.nil
                  go_simp
                  refine (unhide CBg _ _ (unhide O10).st).mono ?_
                  rintro e wa ⟨rfl, h1, h2⟩
                  have O11 := hide ((unhide O10).call (St' := WHas W m b x (fun A w G => Has W w G m A) (K'.beginS S' 2) A' (K'.beginK S' 2)) h1 h2)
                  clear h1 h2 O10 CBg
                  go_wp2_with fail
                  refine hK.out _ _ (unhide RG _ _ (unhide O11)) (fun hNew => ?_)
                  clear hK K9 hHeld
                  have hHeld := hNew
                  clear hNew
                  refine take_at 30 133 (v := ?_) rfl rfl (by kernel_rfl) (by kernel_rfl) (by kernel_rfl) (Or.inl ⟨by rfl, ?_⟩) hHeld ?_
                  rotate_left
                  · intro w hSw; go_simp; with_reducible rfl
                  simp only [Act.put, List.setIfInBounds_toArray, List.set_cons_zero, List.set_cons_succ]
                  refine take_at 31 134 (v := ?_) rfl rfl (by kernel_rfl) (by kernel_rfl) (by kernel_rfl) (Or.inl ⟨by rfl, ?_⟩) hHeld ?_
                  rotate_left
                  · intro w hSw; go_simp; with_reducible rfl
                  simp only [Act.put, List.setIfInBounds_toArray, List.set_cons_zero, List.set_cons_succ]
                  refine take_at 32 4 (v := ?_) rfl rfl (by kernel_rfl) (by kernel_rfl) (by kernel_rfl) (Or.inl ⟨by rfl, ?_⟩) hHeld ?_
                  rotate_left
                  · intro w hSw; go_simp; with_reducible rfl
                  simp only [Act.put, List.setIfInBounds_toArray, List.set_cons_zero, List.set_cons_succ]
                  refine wpAnyH_done (by kernel_rfl) ?_ _
                  refine NoPanic.normal ?_
                  have KF := hide ((WHas.stay (unhide M).toMemL b x (K'.beginS S' 2) A' (K'.beginK S' 2)).sz _ _ (unhide O11).st)
                  clear hHeld RG stl sbl sdl
                  go_wp2_with fail
                  go_ret
                  exact ⟨rfl, (unhide KF).below (Nat.le_refl _) (fun _ h => h.elim)⟩
              | succ l =>
                have hpos : ((l + 1 : Nat) : Int) > 0 := by omega
                have hE0 : E = 0 := by
                  rcases (unhide HP).2 with ⟨h, _⟩ | ⟨h, _⟩ | ⟨_, _, h, _⟩
                  · exact h
                  · exact h
                  · cases h
                subst hE0
                have CS := hide (ph_call (by decide) (unhide M) (unhide HH).st (unhide HOK) (by omega) (unhide HP))
                clear HP HOK
                go_wp2_with fail
                refine (unhide CL).mono ?_
                rintro e wq ⟨rfl, rfl⟩
                clear CL
                go_wp2_with fail
                refine (unhide CS).mono ?_
                rintro e w9 ⟨S2, A2, K2, E, D, l2, rfl, h1, h2, h3, h4, h5⟩
                have O6 := hide ((unhide HH).call (St' := WHas W m b x (fun A w G => Has W w G m A) S2 A2 K2) h1 h2)
                have HP2 := hide h4
                have HOK2 := hide h3
                have hl2 : j + 1 + l2 ≤ n0 := by
                  rcases h5 with ⟨_, _, e⟩ | ⟨_, _, _, e⟩ <;> omega
                clear h1 h2 h3 h4 h5 CS HH
                go_wp2_with fail
                go_roundw
                case rel => exact ⟨j + 1, S2, A2, K2, E, l2, hl2, by go_num, rfl, unhide HP2, ok_mono (unhide HOK2) (by omega), unhide O6⟩
                case measure => simp [intOf]; omega
      · go_upto_region 9 with fail
        clear h1 h2
        generalize (i : Int) = lasti at *
        have T0 : Hid (Tkn S) := ⟨(unhide HD).good, (unhide HD).is⟩
        have HC := hide (unhide HD).calm
        have HN := hide (unhide HD).n
        have HOK : Hid (A.ok 160) := ok_mono (unhide HD).ok (by omega)
        clear HD
        generalize hSS : S = Sx at *
        clear hSS
        go_loopw [53] (fun _ wq => ∃ S : Sto, Tkn S ∧ WHas W m b x (fun A w G => Has W w G m A) S A K0 wq (fun _ => False)) (fun _ wq => leftW wq b 100)
        case atStart => exact ⟨_, unhide T0, unhide HW⟩
        case round =>
          clear T0 HW
          obtain ⟨S, ht, hw⟩ := hrel
          have HW := hide hw
          have TI := hide ht
          clear hw ht
          have CL := hide (left_obj (unhide HW).rep (unhide TI).good.ok)
          have LW := hide (leftW_is (unhide HW).rep (unhide TI).good.lh (by decide))
          go_wp2_with fail
          refine (unhide CL).mono ?_
          rintro e wb ⟨rfl, rfl⟩
          go_wp2_with fail
          refine (unhide CK _).mono ?_
          rintro e wb ⟨rfl, rfl⟩
          by_cases hgt : kq < S.F.left
          · have hg : (kq : Int) < (S.F.left : Int) := by omega
            have ha : S.F.allocE = 0 := by
              rcases Classical.em (S.F.allocE = 0) with h | h
              · exact h
              · have := left_none h; omega
            have hl := left_alloc ha
            have CT := hide ((unhide HW).call fun G' h' => take_obj (unhide M).toMemL h' (unhide TI).good.ok)
            have TK := hide (unhide TI).took
            generalize S.F.allocE = ae at *
            generalize S.F.allocV = av at *
            go_wp2_with fail
            refine (unhide CT).mono ?_
            rintro e w5 ⟨rfl, h1, h2⟩
            have HNw := hide h1
            have LW2 := hide (leftW_is h1.rep (unhide TK).good.lh (by decide))
            clear h1 h2 CT
            go_wp2_with fail
            go_roundw
            case rel => exact ⟨_, unhide TK, unhide HNw⟩
            case measure => rw [unhide LW2, unhide LW]; show S.F.allocA.left < _; omega
          · have hg : ¬ ((kq : Int) < (S.F.left : Int)) := by omega
            clear CL LW CK hgt
            generalize (S.F.left : Int) = lfi at *
            generalize (kq : Int) = ddd at *
            have T1 := hide (WHas.stay (unhide M).toMemL b x S A K0)
            have CB := hide (base_obj (unhide HW).rep)
            have O0 := hide (Held.start (unhide T1) (unhide HW))
            have CT := hide (fun w' (h : SRep m S w' b) => table_obj h)
            have sb := s147_tab S.b
            have sw := s147_tab S.w
            have sd := s8_dir S.d
            have ZT := hide zero_tab
            have ZD := hide zero_dirz
            have Xb := hide (tabV_one S.b)
            have Xw := hide (tabV_one S.w)
            have Xd := hide (dirV_one S.d)
            have SZb : Hid ((tabV fun _ => ze).size = (tabV S.b).size) := by show _ = _; rw [tabV_size, tabV_size]
            have SZw : Hid ((tabV fun _ => ze).size = (tabV S.w).size) := by show _ = _; rw [tabV_size, tabV_size]
            have SZd : Hid ((dirV fun _ => 0).size = (dirV S.d).size) := by show _ = _; rw [dirV_size, dirV_size]
            have EQb := hide (fun (w : World) => zequal_tab S.b w)
            have EQw := hide (fun (w : World) => zequal_tab S.w w)
            have EQd := hide (fun (w : World) => zequal_dir S.d w)
            generalize hTB : tabV S.b = TB at *
            generalize hTW : tabV S.w = TW at *
            generalize hDV : dirV S.d = DV at *
            have HTB := hide hTB
            have HTW := hide hTW
            have HDV := hide hDV
            clear hTB hTW hDV
            generalize (tabV fun _ => ze) = ZTV at *
            generalize hZD : (dirV fun _ => 0) = ZDV at *
            have HZD := hide hZD
            clear hZD
            go_wp2_with fail
            refine (unhide CB).mono ?_
            rintro e w4 ⟨rfl, hb⟩
            have O3 := hide ((unhide O0).below (unhide T1) hb)
            obtain ⟨p1, p2, p3, p4⟩ := (unhide O3).pair (unhide T1) ZTV TB 41 ZDV DV 43
            have O7 := hide p1
            have H8 := hide p2
            have H9 := hide p3
            have H9' : Hid ((((w4.alloc (.cells ZTV 41)).alloc (.cells ZDV 43)).setRow w4.heap.size TB).heap[(w4.alloc (.cells ZTV 41)).heap.size]? = some (.cells ZDV 43 (0, 0))) := by show _ = _; rw [p4]; exact p3
            have E9 := hide p4
            clear hb O0 O3 CB p1 p2 p3 p4 HW
            go_upto_region 12 with (first | (with_reducible refine wpList_allocZ (by with_unfolding_all rfl) 41 (by with_unfolding_all rfl) ZTV (unhide ZT) ?_) | (with_reducible refine wpList_allocZ (by with_unfolding_all rfl) 43 (by with_unfolding_all rfl) ZDV (unhide ZD) ?_) | (with_reducible refine wpList_store_row (by with_unfolding_all rfl) 41 _ _ (by with_unfolding_all rfl) w4.heap.size TB (by with_unfolding_all rfl) (by with_unfolding_all rfl) 41 ZTV (unhide H8) sb (unhide SZb) (unhide Xb) ?_) | (with_reducible refine wpList_store_row (by with_unfolding_all rfl) 43 _ _ (by with_unfolding_all rfl) (w4.heap.size + 1) DV (by with_unfolding_all rfl) (by with_unfolding_all rfl) 43 ZDV (unhide H9) sd (unhide SZd) (unhide Xd) ?_) | (with_reducible refine wpList_store_row (by with_unfolding_all rfl) 43 _ _ (by with_unfolding_all rfl) (w4.alloc (.cells ZTV 41)).heap.size DV (by with_unfolding_all rfl) (by with_unfolding_all rfl) 43 ZDV (unhide H9') sd (unhide SZd) (unhide Xd) ?_))
            try rw [unhide E9]
            clear H8 H9 H9' E9
            obtain ⟨g10, hg10⟩ : ∃ g, g = w4.heap.size := ⟨_, rfl⟩
            rw [← hg10] at O7 ⊢
            clear hg10
            generalize (((w4.alloc (.cells ZTV 41)).alloc (.cells ZDV 43)).setRow g10 TB).setRow (g10 + 1) DV = w5 at *
            have CTT := hide (unhide CT _ (unhide O7).st.rep)
            go_wp2_with fail
            refine (unhide CTT).mono ?_
            rintro e w6 ⟨rfl, hb⟩
            have O8 := hide (((unhide O7).below (unhide T1) hb).alloc (unhide T1) (.cells TW 41))
            clear hb O7 CTT CT
            go_upto_region 13 with (first | (with_reducible refine wpList_allocZ (by with_unfolding_all rfl) 41 (by with_unfolding_all rfl) ZTV (unhide ZT) ?_) | (with_reducible refine wpList_store_row (by with_unfolding_all rfl) 41 _ _ (by with_unfolding_all rfl) w6.heap.size TW (by with_unfolding_all rfl) (by with_unfolding_all rfl) 41 ZTV (heap_new w6 _) sw (unhide SZw) (unhide Xw) ?_; rw [setRow_alloc]))
            obtain ⟨g12, hg12⟩ : ∃ g, g = w6.heap.size := ⟨_, rfl⟩
            rw [← hg12] at O8 ⊢
            clear hg12
            generalize w6.alloc (.cells TW 41) = w7 at *
            obtain ⟨s1, s2⟩ := Ph.start (N := 100) (fr := false) (A0 := A) (K0 := K0) (z := 1) (unhide TI).good (unhide HC) (unhide HN) (unhide hK0).1 (unhide hK0).2.1 ⟨by decide, by decide⟩ (unhide TI).is (fun h => by cases h)
            have hn59 := stepsOf_len S.w S.b
            have HP := hide s2
            have CBg := hide (wbegin_any (unhide M) (unhide O8).st 1)
            rw [s1] at CBg
            clear s1 s2 TI T1
            generalize (stepsOf S.w S.b).length = n0 at *
            generalize K0.beginS S 1 = S1 at *
            generalize K0.beginK S 1 = K1 at *
            go_wp2_with fail
            refine (unhide CBg).mono ?_
            rintro e w8 ⟨rfl, h1, h2⟩
            have O9 := hide ((unhide O8).call (St' := WHas W m b x (fun A w G => Has W w G m A) S1 A K1) h1 h2)
            clear h1 h2 O8 CBg
            go_wp2_with fail
            go_loopw [13, 14] (fun ev q wq => ∃ (j : Nat) (S' : Sto) (A' : Mm) (K' : Wk) (E : Int) (l : Nat), j + l ≤ n0 ∧ q = .int .i64 j ∧ ev = .int .i64 E ∧ Ph 100 false S A K0 S' A' K' E l ∧ A'.ok (160 + 11 * j) ∧ Held W (WHas W m b x (fun A w G => Has W w G m A) S' A' K') wb wq (fun _ => False) [(g12, .cells TW 41), (g10 + 1, .cells DV 43), (g10, .cells TB 41)]) (fun _ q _ => n0 - (intOf q).toNat)
            case atStart => exact ⟨0, S1, A, K1, 0, n0, by omega, rfl, rfl, unhide HP, unhide HOK, unhide O9⟩
            case round =>
              clear O9 HP HOK
              obtain ⟨j, S', A', K', E, l, hj, rfl, rfl, hp, hok, hh⟩ := hrel
              have HH := hide hh
              have HP := hide hp
              have HOK := hide hok
              clear hh hp hok
              have hlen := (unhide HP).len
              have CL := hide ((unhide HH).st.left)
              rw [hlen] at CL
              clear hlen
              have hj60 : (j : Int) < 60 := by omega
              cases l with
              | zero =>
                go_wp2_with fail
                refine (unhide CL).mono ?_
                rintro e wq ⟨rfl, rfl⟩
                clear CL
                go_upto_region 20 with fail
                clear hj60
                generalize (j : Int) = lastj at *
                have T2 := hide (WHas.stay (unhide M).toMemL b x S' A' K')
                have CB := hide (base_obj (unhide HH).st.rep)
                have hTW' : tabV S'.w = TW := by rw [(unhide HP).1.w]; exact unhide HTW
                have CTw := hide (fun w' (h : SRep m S' w' b) => table_obj h)
                rw [hTW'] at CTw
                clear hTW'
                rcases (unhide HP).2 with ⟨_, h1, u⟩ | ⟨rfl, _, h1⟩ | ⟨_, rfl, _, h1⟩
                · exact absurd (List.eq_nil_of_length_eq_zero h1.symm) u.ne
                · have hTB' : tabV S'.b = TW := by rw [h1.b]; exact unhide HTW
                  rw [hTB'] at CB
                  have sX := sw
                  have XX := Xw
                  have SZX := SZw
                  have sD2 := s8_dir S'.d
                  have XD2 := hide (dirV_one S'.d)
                  have SZD2 : Hid (ZDV.size = (dirV S'.d).size) := by show _ = _; rw [← unhide HZD, dirV_size, dirV_size]
                  clear hTB' h1 HP HOK
                  generalize dirV S'.d = DX at *
                  obtain ⟨TX, hTX⟩ : ∃ TX, TX = TW := ⟨_, rfl⟩
                  have HTX := hide hTX
                  clear hTX
                  rw [← unhide HTX] at CB sX XX SZX
                  go_wp2_with fail
                  refine (unhide CB).mono ?_
                  rintro e w4 ⟨rfl, hb⟩
                  have O3 := hide ((unhide HH).below (unhide T2) hb)
                  obtain ⟨p1, p2, p3, p4⟩ := (unhide O3).pair (unhide T2) ZTV TX 41 ZDV DX 43
                  have O7 := hide p1
                  have H8 := hide p2
                  have H9 := hide p3
                  have H9' : Hid ((((w4.alloc (.cells ZTV 41)).alloc (.cells ZDV 43)).setRow w4.heap.size TX).heap[(w4.alloc (.cells ZTV 41)).heap.size]? = some (.cells ZDV 43 (0, 0))) := by show _ = _; rw [p4]; exact p3
                  have E9 := hide p4
                  clear hb O3 CB p1 p2 p3 p4 HH
                  go_upto_region 21 with (first | (with_reducible refine wpList_allocZ (by with_unfolding_all rfl) 41 (by with_unfolding_all rfl) ZTV (unhide ZT) ?_) | (with_reducible refine wpList_allocZ (by with_unfolding_all rfl) 43 (by with_unfolding_all rfl) ZDV (unhide ZD) ?_) | (with_reducible refine wpList_store_row (by with_unfolding_all rfl) 41 _ _ (by with_unfolding_all rfl) w4.heap.size TX (by with_unfolding_all rfl) (by with_unfolding_all rfl) 41 ZTV (unhide H8) sX (unhide SZX) (unhide XX) ?_) | (with_reducible refine wpList_store_row (by with_unfolding_all rfl) 43 _ _ (by with_unfolding_all rfl) (w4.heap.size + 1) DX (by with_unfolding_all rfl) (by with_unfolding_all rfl) 43 ZDV (unhide H9) sD2 (unhide SZD2) (unhide XD2) ?_) | (with_reducible refine wpList_store_row (by with_unfolding_all rfl) 43 _ _ (by with_unfolding_all rfl) (w4.alloc (.cells ZTV 41)).heap.size DX (by with_unfolding_all rfl) (by with_unfolding_all rfl) 43 ZDV (unhide H9') sD2 (unhide SZD2) (unhide XD2) ?_))
                  try rw [unhide E9]
                  clear H8 H9 H9' E9
                  obtain ⟨g15, hg15⟩ : ∃ g, g = w4.heap.size := ⟨_, rfl⟩
                  rw [← hg15] at O7 ⊢
                  clear hg15
                  generalize (((w4.alloc (.cells ZTV 41)).alloc (.cells ZDV 43)).setRow g15 TX).setRow (g15 + 1) DX = w5 at *
                  have O8 := hide ((unhide O7).drew (unhide T2))
                  have RG : Hid (∀ (wx : World), Held W (WHas W m b x (fun A w G => Has W w G m A) S' A' K') wb wx (fun _ => False) [(g15 + 1, .cells DX 43), (g15, .cells TX 41), (g12, .cells TW 41), (g10 + 1, .cells DV 43), (g10, .cells TB 41)] → wx.rangeAt g15 0 TW.toList ∧ wx.rangeAt g12 0 TW.toList) := fun wx O => ⟨fun j v hv => by
                    rw [cell_of_block (O.at g15 (.cells TX 41) (by simp)), Nat.zero_add, unhide HTX, ← Array.getElem?_toList]; exact hv, fun j v hv => by
                    rw [cell_of_block (O.at g12 (.cells TW 41) (by simp)), Nat.zero_add, ← Array.getElem?_toList]; exact hv⟩
                  have stl : (Try.prog.info? 41).map (·.size) = some TW.toList.length := by rw [Array.length_toList]; exact sw
                  go_upto_region 22 with fail
                  refine wp_region_noPanic ?_
                  refine wp_region_held_drew (S := fun w' => w'.rangeAt g15 0 TW.toList ∧ w'.rangeAt g12 0 TW.toList) (by kernel_rfl) (unhide RG _ (unhide O8)) (fun hHeld => ?_)
                  clear O7
                  generalize w5.drew = w6 at *
                  refine take_at 0 89 rfl rfl (by kernel_rfl) (by kernel_rfl) (by kernel_rfl) (yieldsIf_load_mid (by rfl) 41 _ rfl g15 0 rfl TW.toList _ (fun w' h => h.1) Try.underlying41 rfl stl) hHeld ?_
                  simp only [Act.put, List.setIfInBounds_toArray, List.set_cons_zero, List.set_cons_succ]
                  refine take_at 1 90 rfl rfl (by kernel_rfl) (by kernel_rfl) (by kernel_rfl) (yieldsIf_load_mid (by rfl) 41 _ rfl g12 0 rfl TW.toList _ (fun w' h => h.2) Try.underlying41 rfl stl) hHeld ?_
                  simp only [Act.put, List.setIfInBounds_toArray, List.set_cons_zero, List.set_cons_succ]
                  refine take_at 2 91 rfl rfl (by kernel_rfl) (by kernel_rfl) (by kernel_rfl) (yieldsIf_eql (by rfl) 41 _ (.tmp 89) (.tmp 90) rfl TW TW rfl rfl ztab_guard true (unhide EQw)) hHeld ?_
                  simp only [Act.put, List.setIfInBounds_toArray, List.set_cons_zero, List.set_cons_succ]
                  refine take_at 3 92 (v := ?_) rfl rfl (by kernel_rfl) (by kernel_rfl) (by kernel_rfl) (Or.inl ⟨by rfl, ?_⟩) hHeld ?_
                  rotate_left
                  · intro w hSw; go_simp; with_reducible rfl
                  simp only [Act.put, List.setIfInBounds_toArray, List.set_cons_zero, List.set_cons_succ]
                  refine take_at 4 93 (v := ?_) rfl rfl (by kernel_rfl) (by kernel_rfl) (by kernel_rfl) (Or.inl ⟨by rfl, ?_⟩) hHeld ?_
                  rotate_left
                  · intro w hSw; go_simp; with_reducible rfl
                  simp only [Act.put, List.setIfInBounds_toArray, List.set_cons_zero, List.set_cons_succ]
                  refine take_at 6 95 rfl rfl (by kernel_rfl) (by kernel_rfl) (by kernel_rfl) (yieldsIf_load_mid (by rfl) 41 _ rfl g12 0 rfl TW.toList _ (fun w' h => h.2) Try.underlying41 rfl stl) hHeld ?_
                  simp only [Act.put, List.setIfInBounds_toArray, List.set_cons_zero, List.set_cons_succ]
                  refine wpAnyH_ready (rs := [5]) (by kernel_rfl) (by simp) ?_
                  refine AllReadyH.cons rfl (fun K9 hK => ?_) AllReadyH.nil
                  go_simp
                  refine (unhide CTw _ (unhide O8).st.rep).mono ?_
                  rintro e w7 ⟨rfl, hb⟩
                  have O9 := hide ((unhide O8).below (unhide T2) hb)
                  clear hb O8 CTw
                  go_wp2_with fail
                  refine hK.out _ _ (unhide RG _ (unhide O9)) (fun hNew => ?_)
                  clear hK K9 hHeld
                  have hHeld := hNew
                  clear hNew
                  refine take_at 7 96 rfl rfl (by kernel_rfl) (by kernel_rfl) (by kernel_rfl) (yieldsIf_eql (by rfl) 41 _ (.tmp 94) (.tmp 95) rfl TW TW rfl rfl ztab_guard true (unhide EQw)) hHeld ?_
                  simp only [Act.put, List.setIfInBounds_toArray, List.set_cons_zero, List.set_cons_succ]
                  refine take_at 8 97 (v := ?_) rfl rfl (by kernel_rfl) (by kernel_rfl) (by kernel_rfl) (Or.inl ⟨by rfl, ?_⟩) hHeld ?_
                  rotate_left
                  · intro w hSw; go_simp; with_reducible rfl
                  simp only [Act.put, List.setIfInBounds_toArray, List.set_cons_zero, List.set_cons_succ]
                  refine take_at 9 4 (v := ?_) rfl rfl (by kernel_rfl) (by kernel_rfl) (by kernel_rfl) (Or.inl ⟨by rfl, ?_⟩) hHeld ?_
                  rotate_left
                  · intro w hSw; go_simp; with_reducible rfl
                  simp only [Act.put, List.setIfInBounds_toArray, List.set_cons_zero, List.set_cons_succ]
                  refine wpAnyH_done (by kernel_rfl) ?_ _
                  refine NoPanic.normal ?_
                  have KF := hide ((unhide T2).sz _ _ (unhide O9).st)
                  clear hHeld RG stl
                  go_wp2_with fail
                  go_ret
                  exact ⟨rfl, (unhide KF).below (Nat.le_refl _) (fun _ h => h.elim)⟩
                · have hTB' : tabV S'.b = TB := by rw [h1.b]; exact unhide HTB
                  have hDV' : dirV S'.d = DV := by rw [h1.d]; exact unhide HDV
                  rw [hTB', hDV'] at CB
                  have sX := sb
                  have XX := Xb
                  have SZX := SZb
                  have sD2 := sd
                  have XD2 := Xd
                  have SZD2 := SZd
                  have CMk := hide (fun w' (h : SRep m S' w' b) => marked_obj h)
                  have hGn := hide h1
                  have hL0 : Hid (K'.l.length = 0) := by show _ = _; rw [h1.l]; rfl
                  have hB2 := hide (begin_again h1 (unhide hK0).2.2)
                  have CBg := hide (fun w' G' (h : WHas W m b x (fun A w G => Has W w G m A) S' A' K' w' G') => wbegin_any (unhide M) h 2)
                  rw [unhide hB2] at CBg
                  rw [h1.is] at CMk
                  clear hTB' hDV' h1 HP HOK
                  obtain ⟨TX, hTX⟩ : ∃ TX, TX = TB := ⟨_, rfl⟩
                  obtain ⟨DX, hDX⟩ : ∃ DX, DX = DV := ⟨_, rfl⟩
                  have HTX := hide hTX
                  have HDX := hide hDX
                  clear hTX hDX
                  rw [← unhide HTX] at CB sX XX SZX
                  rw [← unhide HDX] at CB sD2 XD2 SZD2
                  go_wp2_with fail
                  refine (unhide CB).mono ?_
                  rintro e w4 ⟨rfl, hb⟩
                  have O3 := hide ((unhide HH).below (unhide T2) hb)
                  obtain ⟨p1, p2, p3, p4⟩ := (unhide O3).pair (unhide T2) ZTV TX 41 ZDV DX 43
                  have O7 := hide p1
                  have H8 := hide p2
                  have H9 := hide p3
                  have H9' : Hid ((((w4.alloc (.cells ZTV 41)).alloc (.cells ZDV 43)).setRow w4.heap.size TX).heap[(w4.alloc (.cells ZTV 41)).heap.size]? = some (.cells ZDV 43 (0, 0))) := by show _ = _; rw [p4]; exact p3
                  have E9 := hide p4
                  clear hb O3 CB p1 p2 p3 p4 HH
                  go_upto_region 21 with (first | (with_reducible refine wpList_allocZ (by with_unfolding_all rfl) 41 (by with_unfolding_all rfl) ZTV (unhide ZT) ?_) | (with_reducible refine wpList_allocZ (by with_unfolding_all rfl) 43 (by with_unfolding_all rfl) ZDV (unhide ZD) ?_) | (with_reducible refine wpList_store_row (by with_unfolding_all rfl) 41 _ _ (by with_unfolding_all rfl) w4.heap.size TX (by with_unfolding_all rfl) (by with_unfolding_all rfl) 41 ZTV (unhide H8) sX (unhide SZX) (unhide XX) ?_) | (with_reducible refine wpList_store_row (by with_unfolding_all rfl) 43 _ _ (by with_unfolding_all rfl) (w4.heap.size + 1) DX (by with_unfolding_all rfl) (by with_unfolding_all rfl) 43 ZDV (unhide H9) sD2 (unhide SZD2) (unhide XD2) ?_) | (with_reducible refine wpList_store_row (by with_unfolding_all rfl) 43 _ _ (by with_unfolding_all rfl) (w4.alloc (.cells ZTV 41)).heap.size DX (by with_unfolding_all rfl) (by with_unfolding_all rfl) 43 ZDV (unhide H9') sD2 (unhide SZD2) (unhide XD2) ?_))
                  try rw [unhide E9]
                  clear H8 H9 H9' E9
                  obtain ⟨g15, hg15⟩ : ∃ g, g = w4.heap.size := ⟨_, rfl⟩
                  rw [← hg15] at O7 ⊢
                  clear hg15
                  generalize (((w4.alloc (.cells ZTV 41)).alloc (.cells ZDV 43)).setRow g15 TX).setRow (g15 + 1) DX = w5 at *
                  have CMw := hide (unhide CMk _ (unhide O7).st.rep)
                  have sk := s147_tab S'.k
                  have Xk := hide (tabV_one S'.k)
                  have SZk : Hid (ZTV.size = (tabV S'.k).size) := by show _ = _; rw [tabV_size, unhide SZw, ← unhide HTW, tabV_size]
                  generalize tabV S'.k = TK at *
                  have hE10 : ((10 : Int) == 0) = false := by decide
                  go_wp2_with fail
                  refine (unhide CMw).mono ?_
                  rintro e w6 ⟨rfl, hb⟩
                  have O8 := hide (((unhide O7).below (unhide T2) hb).alloc (unhide T2) (.cells TK 41))
                  clear hb O7 CMw CMk
                  go_upto_region 24 with (first | (with_reducible refine wpList_allocZ (by with_unfolding_all rfl) 41 (by with_unfolding_all rfl) ZTV (unhide ZT) ?_) | (with_reducible refine wpList_store_row (by with_unfolding_all rfl) 41 _ _ (by with_unfolding_all rfl) w6.heap.size TK (by with_unfolding_all rfl) (by with_unfolding_all rfl) 41 ZTV (heap_new w6 _) sk (unhide SZk) (unhide Xk) ?_; rw [setRow_alloc]))
                  generalize w6.alloc (.cells TK 41) = w7 at *
                  have O9 := hide (((unhide O8).less (unhide T2) (L' := [(g15 + 1, .cells DX 43), (g15, .cells TX 41), (g12, .cells TW 41), (g10 + 1, .cells DV 43), (g10, .cells TB 41)]) (by simp)).drew (unhide T2))
                  have RG : Hid (∀ (S9 : World → (Nat → Prop) → Prop) (wx : World), Held W S9 wb wx (fun _ => False) [(g15 + 1, .cells DX 43), (g15, .cells TX 41), (g12, .cells TW 41), (g10 + 1, .cells DV 43), (g10, .cells TB 41)] → wx.rangeAt g15 0 TB.toList ∧ wx.rangeAt g10 0 TB.toList ∧ wx.rangeAt (g15 + 1) 0 DV.toList ∧ wx.rangeAt (g10 + 1) 0 DV.toList ∧ wx.rangeAt g12 0 TW.toList) := fun S9 wx O => ⟨fun j v hv => by
                    rw [cell_of_block (O.at g15 (.cells TX 41) (by simp)), Nat.zero_add, unhide HTX, ← Array.getElem?_toList]; exact hv, fun j v hv => by
                    rw [cell_of_block (O.at g10 (.cells TB 41) (by simp)), Nat.zero_add, ← Array.getElem?_toList]; exact hv, fun j v hv => by
                    rw [cell_of_block (O.at (g15 + 1) (.cells DX 43) (by simp)), Nat.zero_add, unhide HDX, ← Array.getElem?_toList]; exact hv, fun j v hv => by
                    rw [cell_of_block (O.at (g10 + 1) (.cells DV 43) (by simp)), Nat.zero_add, ← Array.getElem?_toList]; exact hv, fun j v hv => by
                    rw [cell_of_block (O.at g12 (.cells TW 41) (by simp)), Nat.zero_add, ← Array.getElem?_toList]; exact hv⟩
                  have stl : (Try.prog.info? 41).map (·.size) = some TW.toList.length := by rw [Array.length_toList]; exact sw
                  have sbl : (Try.prog.info? 41).map (·.size) = some TB.toList.length := by rw [Array.length_toList]; exact sb
                  have sdl : (Try.prog.info? 43).map (·.size) = some DV.toList.length := by rw [Array.length_toList]; exact sd
                  refine wp_region_noPanic ?_
                  refine wp_region_held_drew (S := fun w' => w'.rangeAt g15 0 TB.toList ∧ w'.rangeAt g10 0 TB.toList ∧ w'.rangeAt (g15 + 1) 0 DV.toList ∧ w'.rangeAt (g10 + 1) 0 DV.toList ∧ w'.rangeAt g12 0 TW.toList) (by kernel_rfl) (unhide RG _ _ (unhide O9)) (fun hHeld => ?_)
                  clear O8
                  generalize w7.drew = w8 at *
                  refine take_at 0 103 (v := ?_) rfl rfl (by kernel_rfl) (by kernel_rfl) (by kernel_rfl) (Or.inl ⟨by rfl, ?_⟩) hHeld ?_
                  rotate_left
                  · intro w hSw; go_simp; with_reducible rfl
                  simp only [Act.put, List.setIfInBounds_toArray, List.set_cons_zero, List.set_cons_succ]
                  refine take_at 1 104 (v := ?_) rfl rfl (by kernel_rfl) (by kernel_rfl) (by kernel_rfl) (Or.inl ⟨by rfl, ?_⟩) hHeld ?_
                  rotate_left
                  · intro w hSw; go_simp; with_reducible rfl
                  simp only [Act.put, List.setIfInBounds_toArray, List.set_cons_zero, List.set_cons_succ]
                  refine take_at 2 105 (v := ?_) rfl rfl (by kernel_rfl) (by kernel_rfl) (by kernel_rfl) (Or.inl ⟨by rfl, ?_⟩) hHeld ?_
                  rotate_left
                  · intro w hSw; go_simp; with_reducible rfl
                  simp only [Act.put, List.setIfInBounds_toArray, List.set_cons_zero, List.set_cons_succ]
                  refine take_at 3 106 rfl rfl (by kernel_rfl) (by kernel_rfl) (by kernel_rfl) (yieldsIf_load_mid (by rfl) 41 _ rfl g15 0 rfl TB.toList _ (fun w' h => h.1) Try.underlying41 rfl sbl) hHeld ?_
                  simp only [Act.put, List.setIfInBounds_toArray, List.set_cons_zero, List.set_cons_succ]
                  refine take_at 4 107 rfl rfl (by kernel_rfl) (by kernel_rfl) (by kernel_rfl) (yieldsIf_load_mid (by rfl) 41 _ rfl g10 0 rfl TB.toList _ (fun w' h => h.2.1) Try.underlying41 rfl sbl) hHeld ?_
                  simp only [Act.put, List.setIfInBounds_toArray, List.set_cons_zero, List.set_cons_succ]
                  refine take_at 5 108 rfl rfl (by kernel_rfl) (by kernel_rfl) (by kernel_rfl) (yieldsIf_eql (by rfl) 41 _ (.tmp 106) (.tmp 107) rfl TB TB rfl rfl ztab_guard true (unhide EQb)) hHeld ?_
                  simp only [Act.put, List.setIfInBounds_toArray, List.set_cons_zero, List.set_cons_succ]
                  refine take_at 6 109 (v := ?_) rfl rfl (by kernel_rfl) (by kernel_rfl) (by kernel_rfl) (Or.inl ⟨by rfl, ?_⟩) hHeld ?_
                  rotate_left
                  · intro w hSw; go_simp; with_reducible rfl
                  simp only [Act.put, List.setIfInBounds_toArray, List.set_cons_zero, List.set_cons_succ]
                  refine take_at 7 110 (v := ?_) rfl rfl (by kernel_rfl) (by kernel_rfl) (by kernel_rfl) (Or.inl ⟨by rfl, ?_⟩) hHeld ?_
                  rotate_left
                  · intro w hSw; go_simp; with_reducible rfl
                  simp only [Act.put, List.setIfInBounds_toArray, List.set_cons_zero, List.set_cons_succ]
                  refine take_at 8 111 rfl rfl (by kernel_rfl) (by kernel_rfl) (by kernel_rfl) (yieldsIf_load_mid (by rfl) 43 _ rfl (g15 + 1) 0 rfl DV.toList _ (fun w' h => h.2.2.1) Try.underlying43 rfl sdl) hHeld ?_
                  simp only [Act.put, List.setIfInBounds_toArray, List.set_cons_zero, List.set_cons_succ]
                  refine take_at 9 112 rfl rfl (by kernel_rfl) (by kernel_rfl) (by kernel_rfl) (yieldsIf_load_mid (by rfl) 43 _ rfl (g10 + 1) 0 rfl DV.toList _ (fun w' h => h.2.2.2.1) Try.underlying43 rfl sdl) hHeld ?_
                  simp only [Act.put, List.setIfInBounds_toArray, List.set_cons_zero, List.set_cons_succ]
                  refine take_at 10 113 rfl rfl (by kernel_rfl) (by kernel_rfl) (by kernel_rfl) (yieldsIf_eql (by rfl) 43 _ (.tmp 111) (.tmp 112) rfl DV DV rfl rfl zdir_guard true (unhide EQd)) hHeld ?_
                  simp only [Act.put, List.setIfInBounds_toArray, List.set_cons_zero, List.set_cons_succ]
                  refine take_at 11 114 (v := ?_) rfl rfl (by kernel_rfl) (by kernel_rfl) (by kernel_rfl) (Or.inl ⟨by rfl, ?_⟩) hHeld ?_
                  rotate_left
                  · intro w hSw; go_simp; with_reducible rfl
                  simp only [Act.put, List.setIfInBounds_toArray, List.set_cons_zero, List.set_cons_succ]
                  refine take_at 12 115 (v := ?_) rfl rfl (by kernel_rfl) (by kernel_rfl) (by kernel_rfl) (Or.inl ⟨by rfl, ?_⟩) hHeld ?_
                  rotate_left
                  · intro w hSw; go_simp; with_reducible rfl
                  simp only [Act.put, List.setIfInBounds_toArray, List.set_cons_zero, List.set_cons_succ]
                  refine take_at 13 116 (v := ?_) rfl rfl (by kernel_rfl) (by kernel_rfl) (by kernel_rfl) (Or.inl ⟨by rfl, ?_⟩) hHeld ?_
                  rotate_left
                  · intro w hSw; go_simp; with_reducible rfl
                  simp only [Act.put, List.setIfInBounds_toArray, List.set_cons_zero, List.set_cons_succ]
                  refine take_at 15 118 rfl rfl (by kernel_rfl) (by kernel_rfl) (by kernel_rfl) (yieldsIf_load_mid (by rfl) 41 _ rfl g12 0 rfl TW.toList _ (fun w' h => h.2.2.2.2) Try.underlying41 rfl stl) hHeld ?_
                  simp only [Act.put, List.setIfInBounds_toArray, List.set_cons_zero, List.set_cons_succ]
                  refine wpAnyH_ready (rs := [14]) (by kernel_rfl) (by simp) ?_
                  refine AllReadyH.cons rfl (fun K9 hK => ?_) AllReadyH.nil
                  go_simp
                  refine (unhide CTw _ (unhide O9).st.rep).mono ?_
                  rintro e w9 ⟨rfl, hb⟩
                  have O10 := hide ((unhide O9).below (unhide T2) hb)
                  clear hb O9 CTw
                  go_wp2_with fail
                  refine hK.out _ _ (unhide RG _ _ (unhide O10)) (fun hNew => ?_)
                  clear hK K9 hHeld
                  have hHeld := hNew
                  clear hNew
                  refine take_at 16 119 rfl rfl (by kernel_rfl) (by kernel_rfl) (by kernel_rfl) (yieldsIf_eql (by rfl) 41 _ (.tmp 117) (.tmp 118) rfl TW TW rfl rfl ztab_guard true (unhide EQw)) hHeld ?_
                  simp only [Act.put, List.setIfInBounds_toArray, List.set_cons_zero, List.set_cons_succ]
                  refine take_at 17 120 (v := ?_) rfl rfl (by kernel_rfl) (by kernel_rfl) (by kernel_rfl) (Or.inl ⟨by rfl, ?_⟩) hHeld ?_
                  rotate_left
                  · intro w hSw; go_simp; with_reducible rfl
                  simp only [Act.put, List.setIfInBounds_toArray, List.set_cons_zero, List.set_cons_succ]
                  refine take_at 18 121 (v := ?_) rfl rfl (by kernel_rfl) (by kernel_rfl) (by kernel_rfl) (Or.inl ⟨by rfl, ?_⟩) hHeld ?_
                  rotate_left
                  · intro w hSw; go_simp; with_reducible rfl
                  simp only [Act.put, List.setIfInBounds_toArray, List.set_cons_zero, List.set_cons_succ]
                  refine take_at 19 122 (v := ?_) rfl rfl (by kernel_rfl) (by kernel_rfl) (by kernel_rfl) (Or.inl ⟨by rfl, ?_⟩) hHeld ?_
                  rotate_left
                  · intro w hSw; go_simp; with_reducible rfl
                  simp only [Act.put, List.setIfInBounds_toArray, List.set_cons_zero, List.set_cons_succ]
                  have CLz := hide ((unhide O10).st.left)
                  rw [unhide hL0] at CLz
                  refine wpAnyH_ready (rs := [20]) (by kernel_rfl) (by simp) ?_
                  refine AllReadyH.cons rfl (fun K9 hK => ?_) AllReadyH.nil
                  go_simp
                  refine (unhide CLz).mono ?_
                  rintro e w9 ⟨rfl, rfl⟩
                  go_wp2_with fail
                  refine hK.out _ _ hHeld (fun hNew => ?_)
                  clear hK K9 hNew CLz
                  refine take_at 21 124 (v := ?_) rfl rfl (by kernel_rfl) (by kernel_rfl) (by kernel_rfl) (Or.inl ⟨by rfl, ?_⟩) hHeld ?_
                  rotate_left
                  · intro w hSw; go_simp; with_reducible rfl
                  simp only [Act.put, List.setIfInBounds_toArray, List.set_cons_zero, List.set_cons_succ]
                  refine take_at 22 125 (v := ?_) rfl rfl (by kernel_rfl) (by kernel_rfl) (by kernel_rfl) (Or.inl ⟨by rfl, ?_⟩) hHeld ?_
                  rotate_left
                  · intro w hSw; go_simp; with_reducible rfl
                  simp only [Act.put, List.setIfInBounds_toArray, List.set_cons_zero, List.set_cons_succ]
                  refine take_at 23 126 (v := ?_) rfl rfl (by kernel_rfl) (by kernel_rfl) (by kernel_rfl) (Or.inl ⟨by rfl, ?_⟩) hHeld ?_
                  rotate_left
                  · intro w hSw; go_simp; with_reducible rfl
                  simp only [Act.put, List.setIfInBounds_toArray, List.set_cons_zero, List.set_cons_succ]
                  refine take_at 24 127 (v := ?_) rfl rfl (by kernel_rfl) (by kernel_rfl) (by kernel_rfl) (Or.inl ⟨by rfl, ?_⟩) hHeld ?_
                  rotate_left
                  · intro w hSw; go_simp; with_reducible rfl
                  simp only [Act.put, List.setIfInBounds_toArray, List.set_cons_zero, List.set_cons_succ]
                  refine take_at 25 128 (v := ?_) rfl rfl (by kernel_rfl) (by kernel_rfl) (by kernel_rfl) (Or.inl ⟨by rfl, ?_⟩) hHeld ?_
                  rotate_left
                  · intro w hSw; go_simp; with_reducible rfl
                  simp only [Act.put, List.setIfInBounds_toArray, List.set_cons_zero, List.set_cons_succ]
                  refine take_at 26 129 (v := ?_) rfl rfl (by kernel_rfl) (by kernel_rfl) (by kernel_rfl) (Or.inl ⟨by rfl, ?_⟩) hHeld ?_
                  rotate_left
                  · intro w hSw; go_simp; with_reducible rfl
                  simp only [Act.put, List.setIfInBounds_toArray, List.set_cons_zero, List.set_cons_succ]
                  refine take_at 27 130 (v := ?_) rfl rfl (by kernel_rfl) (by kernel_rfl) (by kernel_rfl) (Or.inl ⟨by rfl, ?_⟩) hHeld ?_
                  rotate_left
                  · intro w hSw; go_simp; with_reducible rfl
                  simp only [Act.put, List.setIfInBounds_toArray, List.set_cons_zero, List.set_cons_succ]
                  refine take_at 28 131 (v := ?_) rfl rfl (by kernel_rfl) (by kernel_rfl) (by kernel_rfl) (Or.inl ⟨by rfl, ?_⟩) hHeld ?_
                  rotate_left
                  · intro w hSw; go_simp; with_reducible rfl
                  simp only [Act.put, List.setIfInBounds_toArray, List.set_cons_zero, List.set_cons_succ]
                  refine wpAnyH_ready (rs := [29]) (by kernel_rfl) (by simp) ?_
                  refine AllReadyH.cons rfl (fun K9 hK => ?_) AllReadyH.nil
                  go_simp
                  refine (unhide CBg _ _ (unhide O10).st).mono ?_
                  rintro e wa ⟨rfl, h1, h2⟩
                  have O11 := hide ((unhide O10).call (St' := WHas W m b x (fun A w G => Has W w G m A) (K'.beginS S' 2) A' (K'.beginK S' 2)) h1 h2)
                  clear h1 h2 O10 CBg
                  go_wp2_with fail
                  refine hK.out _ _ (unhide RG _ _ (unhide O11)) (fun hNew => ?_)
                  clear hK K9 hHeld
                  have hHeld := hNew
                  clear hNew
                  refine take_at 30 133 (v := ?_) rfl rfl (by kernel_rfl) (by kernel_rfl) (by kernel_rfl) (Or.inl ⟨by rfl, ?_⟩) hHeld ?_
                  rotate_left
                  · intro w hSw; go_simp; with_reducible rfl
                  simp only [Act.put, List.setIfInBounds_toArray, List.set_cons_zero, List.set_cons_succ]
                  refine take_at 31 134 (v := ?_) rfl rfl (by kernel_rfl) (by kernel_rfl) (by kernel_rfl) (Or.inl ⟨by rfl, ?_⟩) hHeld ?_
                  rotate_left
                  · intro w hSw; go_simp; with_reducible rfl
                  simp only [Act.put, List.setIfInBounds_toArray, List.set_cons_zero, List.set_cons_succ]
                  refine take_at 32 4 (v := ?_) rfl rfl (by kernel_rfl) (by kernel_rfl) (by kernel_rfl) (Or.inl ⟨by rfl, ?_⟩) hHeld ?_
                  rotate_left
                  · intro w hSw; go_simp; with_reducible rfl
                  simp only [Act.put, List.setIfInBounds_toArray, List.set_cons_zero, List.set_cons_succ]
                  refine wpAnyH_done (by kernel_rfl) ?_ _
                  refine NoPanic.normal ?_
                  have KF := hide ((WHas.stay (unhide M).toMemL b x (K'.beginS S' 2) A' (K'.beginK S' 2)).sz _ _ (unhide O11).st)
                  clear hHeld RG stl sbl sdl
                  go_wp2_with fail
                  go_ret
                  exact ⟨rfl, (unhide KF).below (Nat.le_refl _) (fun _ h => h.elim)⟩
              | succ l =>
                have hpos : ((l + 1 : Nat) : Int) > 0 := by omega
                have hE0 : E = 0 := by
                  rcases (unhide HP).2 with ⟨h, _⟩ | ⟨h, _⟩ | ⟨_, _, h, _⟩
                  · exact h
                  · exact h
                  · cases h
                subst hE0
                have CS := hide (ph_call (by decide) (unhide M) (unhide HH).st (unhide HOK) (by omega) (unhide HP))
                clear HP HOK
                go_wp2_with fail
                refine (unhide CL).mono ?_
                rintro e wq ⟨rfl, rfl⟩
                clear CL
                go_wp2_with fail
                refine (unhide CS).mono ?_
                rintro e w9 ⟨S2, A2, K2, E, D, l2, rfl, h1, h2, h3, h4, h5⟩
                have O6 := hide ((unhide HH).call (St' := WHas W m b x (fun A w G => Has W w G m A) S2 A2 K2) h1 h2)
                have HP2 := hide h4
                have HOK2 := hide h3
                have hl2 : j + 1 + l2 ≤ n0 := by
                  rcases h5 with ⟨_, _, e⟩ | ⟨_, _, _, e⟩ <;> omega
                clear h1 h2 h3 h4 h5 CS HH
                go_wp2_with fail
                go_roundw
                case rel => exact ⟨j + 1, S2, A2, K2, E, l2, hl2, by go_num, rfl, unhide HP2, ok_mono (unhide HOK2) (by omega), unhide O6⟩
                case measure => simp [intOf]; omega

set_option maxRecDepth 100000 in
theorem lifted (os : Os) (started : os.Started) (H : Type) (enc : TypeId × Value → H) :
    ReturnsInHanded {} Try.checked os 3 .any (Rows.snapAbortsSpec.pre6 enc Try.prog Try.f3 Rows.snapAbortsRow.domain false) (Rows.snapAbortsSpec.post enc Try.prog Try.f3 false true false false) := by
  refine law_frame (C := Try.checked) (ts := [22, 3]) (tb := 4) (by kernel_rfl) started (by kernel_rfl) Try.func3 Try.params3 (by kernel_rfl) Try.underlying4 (by kernel_rfl) (by kernel_rfl) rfl ?_
    (ChangeSpec.witness6 (enc := enc) (C := Try.checked) false ⟨#[], #[.slice none 0 0, .int .i64 0], []⟩ 8 (by kernel_rfl) (by kernel_rfl) (by kernel_rfl) (by kernel_rfl)) ?_
  · intro ds hd
    match ds, hd with
    | [d0, d1], _ => rfl
  · intro W base args ds p hval hA
    obtain ⟨v0, vs0, d0, ds0, p0, q0, hargs, rfl, rfl, h0, r0⟩ := trodAll_cons hA
    obtain ⟨v1, vs1, d1, ds1, p1, q1, rfl, rfl, rfl, h1, r1⟩ := trodAll_cons r0
    obtain ⟨rfl, rfl, rfl⟩ := trodAll_nil r1
    obtain rfl : args = #[v0, v1] := by cases args; simp_all
    obtain ⟨a, n, cap, o, rfl, hO⟩ := open_zops (hval 0 22 v0 rfl rfl) h0
    obtain ⟨sq, rfl, rfl, rfl, wsq⟩ := open_int Try.underlying3 (hval 1 3 v1 rfl rfl) h1
    exact walk W a n cap o sq hO wsq

theorem over : Rows.snapAbortsRow.holds Try.pinned (OpenSpec.ofChange Rows.snapAbortsSpec) :=
  OpenClaim.holds_of_wide 3 Try.f3 rfl rfl rfl rfl rfl rfl rfl ⟨rfl, rfl, rfl, rfl, rfl⟩ rfl rfl rfl rfl rfl (by kernel_rfl) Try.func3 (by kernel_rfl)
    (of_decide_eq_true (by kernel_rfl)) (by unfold Func.isWrapper; first | (rw [if_pos (by decide +kernel)]; kernel_rfl) | (rw [if_neg (by decide +kernel)]; exact ⟨rfl, rfl⟩))
    (fun os started H enc _ => lifted os started H enc)

end Go.Proofs.Ytinhnnnehhlceaa.snapAborts
namespace Go.Proofs.Ytinhnnnehhlceaa
theorem snapAborts_holds : Rows.SnapAbortsSaid := snapAborts.over
end Go.Proofs.Ytinhnnnehhlceaa
