
/-
  For every row of changes and every number, SnapQuiet returns true and leaves its arguments as they were: no step of a checkpoint changes what there is. No condition.
-/
import Derived.Test.YtinhnnnehhlceaaPkZd
import Derived.Test.YtinhnnnehhlceaaPkIv
import Derived.Test.YtinhnnnehhlceaaLaw
import Derived.Test.YtinhnnnehhlceaaRows
namespace Go.Proofs.Ytinhnnnehhlceaa.snapQuiet
open Go.ChangeShapes Go.WideShapes Go.ChangeAt Go.RowKit Go.Joins
set_option linter.unusedVariables false
set_option linter.unusedSimpArgs false
set_option maxRecDepth 100000

theorem left_300 : (sS 12 300).F.left = 270 := by decide +kernel

/-! ### the row of objects -/
def waV (O : Nat → Nat → Value) : Array Value := tab 490 fun c => O (c / 10) (c % 10)
def waTo (S : Sto) (A : Mm) (k i q : Nat) : Value := if i < k then (S.getV A (i : Int)).getD q undef else (obV 0 0 fun _ => 0).getD q undef
theorem waV_ext {O O' : Nat → Nat → Value} (h : ∀ i q, i < 49 → q < 10 → O i q = O' i q) : waV O = waV O' := by
  unfold waV
  refine tab_ext fun c hc => ?_
  rw [h _ _ (by omega) (by omega)]
theorem wa_put {w : World} {g : Nat} {T : TypeId} {O : Nat → Nat → Value} {k : Nat} (l : Array Value) (hl : l.size = 10) (hk : k < 49) (h : w.heap[g]? = some (.cells (waV O) T (0, 0))) :
    (w.setCells g (k * 10) l.toList).heap[g]? = some (.cells (waV (fun i q => if i = k then l.getD q undef else O i q)) T (0, 0)) := by
  rw [block_sets _ _ _ _ h]
  congr 2
  refine tab_ext fun c hc => ?_
  rw [Array.length_toList, hl]
  show _ = if c / 10 = k then l.getD (c % 10) undef else O (c / 10) (c % 10)
  by_cases e : k * 10 ≤ c ∧ c < k * 10 + 10
  · rw [if_pos e, if_pos (show c / 10 = k by omega), show c % 10 = c - k * 10 by omega]
    have hlt : c - k * 10 < l.size := by omega
    rw [List.getD_eq_getElem?_getD, Array.getElem?_toList, Array.getD_eq_getD_getElem?]
  · rw [if_neg e, if_neg (show ¬ c / 10 = k by omega)]
theorem wa_there {w : World} {g : Nat} {T : TypeId} {O : Nat → Nat → Value} {k : Nat} (hk : k < 49) (h : w.heap[g]? = some (.cells (waV O) T (0, 0))) : w.there g (k * 10) 10 := (Blk.of_tab (T := T) h).there _ _ (by omega)
theorem wa_range {w : World} {g : Nat} {T : TypeId} {O : Nat → Nat → Value} {k : Nat} (hk : k < 49) (l : Array Value) (hl : l.size = 10) (hO : ∀ q, q < 10 → O k q = l.getD q undef) (h : w.heap[g]? = some (.cells (waV O) T (0, 0))) : w.rangeAt g (k * 10) l.toList := by
  have e : l.toList = (List.range 10).map fun q => O k q := by
    apply List.ext_getElem?
    intro i
    by_cases hi : i < 10
    · rw [List.getElem?_map, List.getElem?_range hi, Array.getElem?_toList]
      show _ = some (O k i)
      rw [hO i hi, Array.getD_eq_getD_getElem?, Array.getElem?_eq_getElem (by omega)]; rfl
    · rw [List.getElem?_eq_none (by rw [Array.length_toList]; omega), List.getElem?_eq_none (by simpa using hi)]
  rw [e]
  exact (Blk.of_tab (T := T) h).range (k * 10) 10 (by omega) (fun q => O k q) (fun j hj => by
    show O ((k * 10 + j) / 10) ((k * 10 + j) % 10) = _
    rw [show (k * 10 + j) / 10 = k by omega, show (k * 10 + j) % 10 = j by omega])
theorem waTo_next (S : Sto) (A : Mm) (k : Nat) : (fun i q => if i = k then (S.getV A (k : Int)).getD q undef else waTo S A k i q) = waTo S A (k + 1) := by
  funext i q
  unfold waTo
  by_cases e : i = k
  · subst e; rw [if_pos rfl, if_pos (by omega)]
  · rw [if_neg e]
    by_cases h : i < k
    · rw [if_pos h, if_pos (by omega)]
    · rw [if_neg h, if_neg (by omega)]
theorem zero_wa0 : (Try.prog.info? 57).map (·.zero) = some (some (.agg (waV fun _ q => (obV 0 0 fun _ => 0).getD q undef))) := by kernel_rfl
theorem built_wa0 : Try.prog.built 57 [] = some (waV fun _ q => (obV 0 0 fun _ => 0).getD q undef) := by kernel_rfl
theorem zero_wa (S : Sto) (A : Mm) : (Try.prog.info? 57).map (·.zero) = some (some (.agg (waV (waTo S A 0)))) := by
  have e : waV (waTo S A 0) = waV fun _ q => (obV 0 0 fun _ => 0).getD q undef := waV_ext fun i q _ _ => if_neg (by omega)
  rw [e]; exact zero_wa0
theorem built_wa (S : Sto) (A : Mm) : Try.prog.built 57 [] = some (waV (waTo S A 0)) := by
  have e : waV (waTo S A 0) = waV fun _ q => (obV 0 0 fun _ => 0).getD q undef := waV_ext fun i q _ _ => if_neg (by omega)
  rw [e]; exact built_wa0
theorem s490 (O : Nat → Nat → Value) : (Try.prog.info? 57).map (·.size) = some (waV O).size := by unfold waV; rw [tab_size]; kernel_rfl
theorem zgetV_ob (S : Sto) (A : Mm) (x : Int) : ∃ k v f, S.getV A x = obV k v f := by
  unfold Sto.getV
  split
  · exact ⟨_, _, _, rfl⟩
  · exact ⟨_, _, _, rfl⟩
theorem zero_obz : (Try.prog.info? 56).map (·.zero) = some (some (.agg (obV 0 0 fun _ => 0))) := by kernel_rfl
theorem getV_size (S : Sto) (A : Mm) (z : Int) : (S.getV A z).size = 10 := by
  unfold Sto.getV; split <;> exact obV_size _ _ _
theorem getV_one (S : Sto) (A : Mm) (z : Int) : (S.getV A z).all (·.oneCell') = true := by
  unfold Sto.getV; split <;> exact obV_one _ _ _
theorem waV0_one (S : Sto) (A : Mm) : (waV (waTo S A 0)).all (·.oneCell') = true := by
  have e : waV (waTo S A 0) = waV fun _ q => (obV 0 0 fun _ => 0).getD q undef := waV_ext fun i q _ _ => if_neg (by omega)
  rw [e]; decide +kernel

set_option maxHeartbeats 32000000 in
theorem walk (W : World) (a : Option Addr) (n cap : Nat) (o : Nat → OOp) (sq : Int) (hO : OOpsAt W a n cap o) (wsq : (Lit.int .i64 sq).wf = true) :
    Calls Try.prog 4 #[.slice a n cap, .int .i64 sq] W fun e W' => e = .returned (.bool true) ∧ Below W.heap.size W W' := by
  have CK := hide (zkind_any sq (in64_wf wsq) 100 (by decide) (by decide))
  have hk100 := kindN_lt sq 100 (by decide)
  obtain ⟨kq, hkq⟩ : ∃ kq, kq = kindN sq 100 := ⟨_, rfl⟩
  rw [← hkq] at CK hk100
  clear hkq wsq
  obtain ⟨hn, hops⟩ := hO
  have HO := hide hops
  clear hops
  go_enter Try.func4, Try.ntmps4
  go_wp2_with fail
  refine (zshown_any W).mono ?_
  rintro e w0 ⟨rfl, hk0⟩
  have CM := hide (zmade_any W w0 hk0 (fun _ => False) (fun _ h => h.elim) 300 12 (by decide) (by decide) (by decide))
  clear hk0
  go_wp2_with fail
  refine (unhide CM).mono ?_
  rintro e w1 ⟨m, b, x, rfl, hw, -⟩
  have HW0 := hide hw
  have M := hide (Has.memX W m)
  have D0 := hide (Chd.start 300 (by decide) (by decide))
  clear hw CM
  have hK0 : Hid (wk0.l = [] ∧ Sup wk0 ∧ wk0.gen = 1) := ⟨rfl, sup_wk0, rfl⟩
  generalize iA 12 300 = A0 at *
  generalize sS 12 300 = S0 at *
  generalize wk0 = K0 at *
  go_wp2_with fail
  go_loopw [9] (fun q wr => ∃ (i : Nat) (S : Sto) (A : Mm), i ≤ n ∧ i ≤ 20 ∧ q = .int .i64 i ∧ Chd 300 S A i ∧ WHas W m b x (fun A w G => Has W w G m A) S A K0 wr (fun _ => False)) (fun q _ => n - (intOf q).toNat)
  case atStart => exact ⟨0, S0, A0, by omega, by omega, rfl, unhide D0, unhide HW0⟩
  case round =>
    clear D0 HW0
    obtain ⟨i, S, A, hi, hi20, rfl, hd, hw⟩ := hrel
    have HW := hide hw
    have HD := hide hd
    clear hw hd
    by_cases hlt : i < n ∧ i < 20
    · skip
      obtain ⟨xx, off, rfl, hx⟩ : ∃ b off, a = some ⟨b, off, none⟩ ∧ ∀ i, i < n → OOpAt W b (off + i * 4) (o i) := by
        rcases unhide HO with h | h
        · omega
        · exact h
      have hxj := hx i hlt.1
      have R0 := hide (rangeAt_keeps hxj.1 ((WHas.stay (unhide M).toMemL b x S A K0).sz _ _ (unhide HW)) id)
      have hfit := hide hxj.2
      have hin : (i : Int) < (n : Int) := by omega
      have hi20 : (i : Int) < 20 := by omega
      have s4 : (Try.prog.info? 32).map (·.size) = some (o i).cells.length := by show _ = some 4; kernel_rfl
      clear hx hxj
      obtain ⟨kd, id, wd, v, hop⟩ : ∃ kd id wd v, o i = ⟨kd, id, wd, v⟩ := ⟨_, _, _, _, rfl⟩
      rw [hop] at R0 hfit s4
      clear hop
      have R1 : Hid (wr.rangeAt xx (off + i * 4) [.int .i64 kd, .int .i64 id, .int .i64 wd, .int .u64 v]) := unhide R0
      have s4' : (Try.prog.info? 32).map (·.size) = some [Value.int .i64 kd, .int .i64 id, .int .i64 wd, .int .u64 v].length := s4
      have CC := hide ((unhide HW).call fun G' h' => change_any (unhide M).toMemL h' (unhide HD).good.ok (ok_mono (unhide HD).ok (by omega)) kd id wd v (unhide hfit))
      have HD2 := hide ((unhide HD).ch ⟨kd, id, wd, v⟩ (unhide hfit).2.2.2)
      clear R0 s4 HW HD
      generalize chS S A ⟨kd, id, wd, v⟩ = S2 at *
      generalize chM S A ⟨kd, id, wd, v⟩ = A2 at *
      go_wp2_with (with_reducible refine wpList_load_mid (by with_unfolding_all rfl) 32 _ (by with_unfolding_all rfl) xx (off + i * 4) (by with_unfolding_all rfl) [.int .i64 kd, .int .i64 id, .int .i64 wd, .int .u64 v] _ (unhide R1) Try.underlying32 (by with_unfolding_all rfl) s4' ?_)
      refine (unhide CC).mono ?_
      rintro e w2 ⟨rfl, h1, -⟩
      have HW2 := hide h1
      clear h1 CC R1
      go_wp2_with fail
      go_roundw
      case rel => exact ⟨i + 1, S2, A2, by omega, by omega, by go_num, unhide HD2, unhide HW2⟩
      case measure => simp [intOf]; omega
    · have hor : ¬ ((i : Int) < (n : Int)) ∨ ((i : Int) < (n : Int) ∧ ¬ ((i : Int) < 20)) := by omega
      clear hlt HO
      rcases hor with h1 | ⟨h1, h2⟩
      · go_upto_region 9 with fail
        clear h1
        generalize (i : Int) = lasti at *
        have T1 := hide (WHas.stay (unhide M).toMemL b x S A K0)
        have CT := hide (table_obj (unhide HW).rep)
        have st := s147_tab S.w
        have Zt := hide zero_tab
        have Xt := hide (tabV_one S.w)
        have SZt : Hid ((tabV fun _ => ze).size = (tabV S.w).size) := by show _ = _; rw [tabV_size, tabV_size]
        have EQT := hide (fun (w : World) => zequal_tab S.w w)
        generalize hTV : tabV S.w = TV at *
        have HTV := hide hTV
        clear hTV
        generalize (tabV fun _ => ze) = ZT at *
        go_wp2_with fail
        refine (unhide CT).mono ?_
        rintro e w2 ⟨rfl, hb⟩
        have O1 := hide (((Held.start (unhide T1) (unhide HW)).below (unhide T1) hb).alloc (unhide T1) (.cells TV 41))
        clear hb CT HW
        go_upto_region 10 with (first | (with_reducible refine wpList_allocZ (by with_unfolding_all rfl) 41 (by with_unfolding_all rfl) ZT (unhide Zt) ?_) | (with_reducible refine wpList_store_row (by with_unfolding_all rfl) 41 _ _ (by with_unfolding_all rfl) w2.heap.size TV (by with_unfolding_all rfl) (by with_unfolding_all rfl) 41 ZT (heap_new w2 _) st (unhide SZt) (unhide Xt) ?_; rw [setRow_alloc]))
        obtain ⟨g10, hg10⟩ : ∃ g, g = w2.heap.size := ⟨_, rfl⟩
        rw [← hg10] at O1 ⊢
        clear hg10
        generalize w2.alloc (.cells TV 41) = w3 at *
        have O2 := hide ((unhide O1).alloc (unhide T1) (.cells (waV (waTo S A 0)) 57))
        have h10 : g10 < w3.heap.size := (unhide O1).lt (g10, _) List.mem_cons_self
        have Zw := hide (zero_wa S A)
        have Bw := hide (built_wa S A)
        have sw := s490 (waTo S A 0)
        have Xw := hide (waV0_one S A)
        generalize hWV : waV (waTo S A 0) = WV at *
        clear O1 Zt SZt Xt
        go_upto_region 12 with (first | (with_reducible refine wpList_build0 (by with_unfolding_all rfl) 57 (by with_unfolding_all rfl) WV (unhide Bw) ?_) | (with_reducible refine wpList_allocZ (by with_unfolding_all rfl) 57 (by with_unfolding_all rfl) WV (unhide Zw) ?_) | (with_reducible refine wpList_store_row (by with_unfolding_all rfl) 57 _ _ (by with_unfolding_all rfl) w3.heap.size WV (by with_unfolding_all rfl) (by with_unfolding_all rfl) 57 WV (heap_new w3 _) sw rfl (unhide Xw) ?_; rw [setRow_alloc]))
        obtain ⟨g11, hg11⟩ : ∃ g, g = w3.heap.size := ⟨_, rfl⟩
        rw [← hg11] at O2 h10 ⊢
        clear hg11
        generalize w3.alloc (.cells WV 57) = w4 at *
        rw [← hWV] at O2
        clear Zw Bw sw Xw hWV
        have hAn : A.n ≤ 1024 := by rw [(unhide HD).n]; decide
        have CG := hide (fun (w' : World) G' (h' : WHas W m b x (fun A w G => Has W w G m A) S A K0 w' G') (z : Int) => h'.call fun G'' h'' => get_any (unhide M).toMemL h'' hAn z)
        go_wp2_with fail
        go_loopw [12] (fun q wq => ∃ k : Nat, k ≤ 49 ∧ q = .int .i64 k ∧ Held W (WHas W m b x (fun A w G => Has W w G m A) S A K0) wr wq (fun _ => False) [(g11, .cells (waV (waTo S A k)) 57), (g10, .cells TV 41)]) (fun q _ => 49 - (intOf q).toNat)
        case atStart => exact ⟨0, by omega, rfl, unhide O2⟩
        case round =>
          clear O2
          obtain ⟨k, hk, rfl, hh⟩ := hrel
          have HH := hide hh
          clear hh
          by_cases hlk : k < 49
          · have hk49 : (k : Int) < 49 := by omega
            have CGk := hide (unhide CG _ _ (unhide HH).st (k : Int))
            have HG : Hid (getT S A (k : Int) = .tuple #[.agg (S.getV A (k : Int)), .int .i64 (S.getE A (k : Int))]) := rfl
            rw [unhide HG] at CGk
            have hsz := getV_size S A (k : Int)
            have s10 : (Try.prog.info? 56).map (·.size) = some (S.getV A (k : Int)).size := by rw [hsz]; kernel_rfl
            have X10 := hide (getV_one S A (k : Int))
            have NX := hide (waTo_next S A k)
            generalize S.getE A (k : Int) = er at *
            have KP := hide (fun (w' : World) (h : w'.heap[g11]? = some (.cells (waV (waTo S A k)) 57 (0, 0))) => wa_put (S.getV A (k : Int)) hsz hlk h)
            rw [unhide NX] at KP
            clear HG NX
            generalize S.getV A (k : Int) = OV at *
            go_wp2_with fail
            refine (unhide CGk).mono ?_
            rintro e w5 ⟨rfl, h1, h2⟩
            have O3 := hide ((unhide HH).call (St' := WHas W m b x (fun A w G => Has W w G m A) S A K0) h1 h2)
            clear h1 h2 HH CGk
            have bk := (unhide O3).at g11 (.cells (waV (waTo S A k)) 57) (by simp)
            have TB : Hid (w5.there g11 (k * 10) OV.size) := by rw [hsz]; exact wa_there hlk bk
            have O4 := hide (((unhide O3).turnOwn (unhide T1) g11 (.cells (waV (waTo S A k)) 57) _ (by simp) (keeps_sets OV.toList (k * 10) _ _ (Keeps.refl _ _)) (unhide KP _ bk)).less (unhide T1) (L' := [(g11, .cells (waV (waTo S A (k + 1))) 57), (g10, .cells TV 41)]) (fun p hp => by
              rcases List.mem_cons.1 hp with rfl | hp
              · exact List.mem_cons_self
              · rcases List.mem_cons.1 hp with rfl | hp
                · exact List.mem_cons_of_mem _ (List.mem_filter.2 ⟨by simp, by simp; omega⟩)
                · cases hp))
            clear bk KP O3
            go_wp2_with (with_reducible refine wpList_store_mid (by with_unfolding_all rfl) 56 _ _ (by with_unfolding_all rfl) g11 (k * 10) OV (by with_unfolding_all rfl) (by with_unfolding_all rfl) (unhide TB) s10 (unhide X10) ?_)
            go_roundw
            case rel => exact ⟨k + 1, by omega, by go_num, unhide O4⟩
            case measure => simp [intOf]; omega
          · have hge : ¬ ((k : Int) < 49) := by omega
            have ek : k = 49 := by omega
            rw [ek] at HH
            clear hlk ek
            go_upto_region 15 with fail
            clear hge
            generalize (k : Int) = lastk at *
            clear CG
            have hleft := (unhide HD).left
            rw [left_300] at hleft
            obtain ⟨hz1, hz2⟩ : (0 : Int) ≤ (kq : Int) ∧ (kq : Int) ≤ two40 := ⟨by omega, by unfold two40; omega⟩
            obtain ⟨s1, s2⟩ := Ph.start (N := 300) (fr := true) (A0 := A) (K0 := K0) (z := (kq : Int)) (unhide HD).good (unhide HD).calm (unhide HD).n (unhide hK0).1 (unhide hK0).2.1 ⟨hz1, hz2⟩ (unhide HD).is (fun _ => by omega)
            have hn59 := stepsOf_len S.w S.b
            have HP := hide s2
            have HOK : Hid (A.ok 160) := ok_mono (unhide HD).ok (by omega)
            have CB := hide (wbegin_any (unhide M) (unhide HH).st (kq : Int))
            rw [s1] at CB
            clear s1 s2 hz1 hz2 hleft
            generalize (stepsOf S.w S.b).length = n0 at *
            generalize K0.beginS S (kq : Int) = S1 at *
            generalize K0.beginK S (kq : Int) = K1 at *
            go_wp2_with fail
            refine (unhide CK _).mono ?_
            rintro e w5 ⟨rfl, rfl⟩
            go_wp2_with fail
            refine (unhide CB).mono ?_
            rintro e w6 ⟨rfl, h1, h2⟩
            have O5 := hide ((unhide HH).call (St' := WHas W m b x (fun A w G => Has W w G m A) S1 A K1) h1 h2)
            clear h1 h2 HH CB CK
            go_wp2_with fail
            go_loopw [13, 14, 15] (fun q _ _ wq => ∃ (j : Nat) (S' : Sto) (A' : Mm) (K' : Wk) (l : Nat), j + l = n0 ∧ q = .int .i64 j ∧ Ph 300 true S A K0 S' A' K' 0 l ∧ A'.ok (160 + 11 * j) ∧ Held W (WHas W m b x (fun A w G => Has W w G m A) S' A' K') wr wq (fun _ => False) [(g11, .cells (waV (waTo S A 49)) 57), (g10, .cells TV 41)]) (fun q _ _ _ => n0 - (intOf q).toNat)
            case atStart => exact ⟨0, S1, A, K1, n0, by omega, rfl, unhide HP, unhide HOK, unhide O5⟩
            case round =>
              clear O5 HP HOK
              obtain ⟨j, S', A', K', l, hj, rfl, hp, hok, hh⟩ := hrel
              have HH := hide hh
              have HP := hide hp
              have HOK := hide hok
              clear hh hp hok
              have hlen := (unhide HP).len
              have CL := hide ((unhide HH).st.left)
              rw [hlen] at CL
              clear hlen
              have hj60 : (j : Int) < 60 := by omega
              cases l with
              | zero =>
                go_wp2_with fail
                refine (unhide CL).mono ?_
                rintro e wq ⟨rfl, rfl⟩
                clear CL
                go_upto_region 22 with fail
                clear hj60
                generalize (j : Int) = lastj at *
                have hAn2 : A'.n ≤ 1024 := by rw [(unhide HP).1.n]; decide
                have CG := hide (fun (w' : World) G' (h' : WHas W m b x (fun A w G => Has W w G m A) S' A' K' w' G') (z : Int) => h'.call fun G'' h'' => get_any (unhide M).toMemL h'' hAn2 z)
                have HSM := hide (fun k => get_same (unhide HP).1 (unhide HD).good (unhide HD).calm (unhide HD).n k)
                have HL0 : Hid (K'.l.length = 0) := (unhide HP).len
                have T2 := hide (WHas.stay (unhide M).toMemL b x S' A' K')
                clear HP HOK hAn2
                go_wp2_with fail
                go_loopw [16, 17, 18] (fun q _ _ wq => ∃ k : Nat, k ≤ 49 ∧ q = .int .i64 k ∧ Held W (WHas W m b x (fun A w G => Has W w G m A) S' A' K') wr wq (fun _ => False) [(g11, .cells (waV (waTo S A 49)) 57), (g10, .cells TV 41)]) (fun q _ _ _ => 49 - (intOf q).toNat)
                case atStart => exact ⟨0, by omega, rfl, unhide HH⟩
                case round =>
                  clear HH
                  obtain ⟨k, hk, rfl, hh⟩ := hrel
                  have HH := hide hh
                  clear hh
                  by_cases hlk : k < 49
                  · have hk49 : (k : Int) < 49 := by omega
                    have CGk := hide (unhide CG _ _ (unhide HH).st (k : Int))
                    rw [unhide HSM k] at CGk
                    have HG : Hid (getT S A (k : Int) = .tuple #[.agg (S.getV A (k : Int)), .int .i64 (S.getE A (k : Int))]) := rfl
                    rw [unhide HG] at CGk
                    have hsz := getV_size S A (k : Int)
                    have s10 : (Try.prog.info? 56).map (·.size) = some (S.getV A (k : Int)).size := by rw [hsz]; kernel_rfl
                    have s10l : (Try.prog.info? 56).map (·.size) = some (S.getV A (k : Int)).toList.length := by rw [Array.length_toList]; exact s10
                    have X10 := hide (getV_one S A (k : Int))
                    have HO49 : Hid (∀ q, q < 10 → waTo S A 49 k q = (S.getV A (k : Int)).getD q undef) := fun q _ => if_pos hlk
                    have EQO : Hid (∀ w : World, (Op.equalIn 10000 56 (.agg (S.getV A (k : Int))) (.agg (S.getV A (k : Int)))).run Try.prog w = .ok true w) := fun w => by
                      obtain ⟨k1, v1, f1, e⟩ := zgetV_ob S A (k : Int)
                      rw [e]; exact zequal_ob k1 v1 f1 w
                    have Z10 := hide zero_obz
                    have SZ10 : Hid ((obV 0 0 fun _ => 0).size = (S.getV A (k : Int)).size) := by show _ = _; rw [hsz, obV_size]
                    have RK : Hid (∀ wx : World, wx.heap[g11]? = some (.cells (waV (waTo S A 49)) 57 (0, 0)) → wx.rangeAt g11 (k * 10) (S.getV A (k : Int)).toList) := fun wx h => wa_range hlk _ hsz (unhide HO49) h
                    clear HG HO49
                    generalize S.getE A (k : Int) = er at *
                    generalize S.getV A (k : Int) = OV at *
                    generalize (obV 0 0 fun _ => 0) = ZO at *
                    go_wp2_with fail
                    refine (unhide CGk).mono ?_
                    rintro e w5 ⟨rfl, h1, h2⟩
                    have O3 := hide (((unhide HH).call (St' := WHas W m b x (fun A w G => Has W w G m A) S' A' K') h1 h2).alloc (unhide T2) (.cells OV 56))
                    clear h1 h2 HH CGk
                    go_upto_region 26 with (first | (with_reducible refine wpList_allocZ (by with_unfolding_all rfl) 56 (by with_unfolding_all rfl) ZO (unhide Z10) ?_) | (with_reducible refine wpList_store_row (by with_unfolding_all rfl) 56 _ _ (by with_unfolding_all rfl) w5.heap.size OV (by with_unfolding_all rfl) (by with_unfolding_all rfl) 56 ZO (heap_new w5 _) s10 (unhide SZ10) (unhide X10) ?_; rw [setRow_alloc]))
                    obtain ⟨g17, hg17⟩ : ∃ g, g = w5.heap.size := ⟨_, rfl⟩
                    rw [← hg17] at O3 ⊢
                    clear hg17
                    generalize w5.alloc (.cells OV 56) = w6 at *
                    have O4 := hide ((unhide O3).drew (unhide T2))
                    clear O3 Z10 SZ10 X10
                    have SS : Hid (w6.drew.rangeAt g17 0 OV.toList ∧ w6.drew.rangeAt g11 (k * 10) OV.toList) := ⟨fun j u hu => by rw [cell_of_block ((unhide O4).at g17 (.cells OV 56) (by simp)), Nat.zero_add, ← Array.getElem?_toList]; exact hu, unhide RK _ ((unhide O4).at g11 (.cells (waV (waTo S A 49)) 57) (by simp))⟩
                    refine wp_region_noPanic ?_
                    refine wp_region_held_drew (S := fun w' => w'.rangeAt g17 0 OV.toList ∧ w'.rangeAt g11 (k * 10) OV.toList) (by kernel_rfl) (unhide SS) (fun hHeld => ?_)
                    generalize w6.drew = w7 at *
                    clear SS RK
                    refine take_at 0 98 rfl rfl (by kernel_rfl) (by kernel_rfl) (by kernel_rfl) (yieldsIf_load_mid (by rfl) 56 _ rfl g17 0 rfl OV.toList _ (fun w' h => h.1) Try.underlying56 rfl s10l) hHeld ?_
                    simp only [Act.put, List.setIfInBounds_toArray, List.set_cons_zero, List.set_cons_succ]
                    refine take_at 1 99 (v := ?_) rfl rfl (by kernel_rfl) (by kernel_rfl) (by kernel_rfl) (Or.inl ⟨by rfl, ?_⟩) hHeld ?_
                    rotate_left
                    · intro w hSw; go_simp; with_reducible rfl
                    simp only [Act.put, List.setIfInBounds_toArray, List.set_cons_zero, List.set_cons_succ]
                    refine take_at 2 100 (v := .pointer (some ⟨g11, k * 10, none⟩)) rfl rfl (by kernel_rfl) (by kernel_rfl) (by kernel_rfl) (Or.inl ⟨by rfl, ?_⟩) hHeld ?_
                    · intro w hSw
                      first | (go_simp; done) | (go_simp; rfl)
                    simp only [Act.put, List.setIfInBounds_toArray, List.set_cons_zero, List.set_cons_succ]
                    refine take_at 3 101 rfl rfl (by kernel_rfl) (by kernel_rfl) (by kernel_rfl) (yieldsIf_load_mid (by rfl) 56 _ rfl g11 (k * 10) rfl OV.toList _ (fun w' h => h.2) Try.underlying56 rfl s10l) hHeld ?_
                    simp only [Act.put, List.setIfInBounds_toArray, List.set_cons_zero, List.set_cons_succ]
                    refine take_at 4 102 rfl rfl (by kernel_rfl) (by kernel_rfl) (by kernel_rfl) (yieldsIf_neqA (by rfl) 56 _ (.tmp 98) (.tmp 101) rfl OV OV rfl rfl zob_guard true (unhide EQO)) hHeld ?_
                    simp only [Act.put, List.setIfInBounds_toArray, List.set_cons_zero, List.set_cons_succ]
                    refine wpAnyH_done (by kernel_rfl) ?_ _
                    refine NoPanic.normal ?_
                    clear hHeld
                    have O5 := hide ((unhide O4).less (unhide T2) (L' := [(g11, .cells (waV (waTo S A 49)) 57), (g10, .cells TV 41)]) (by simp))
                    clear O4
                    go_wp2_with fail
                    go_roundw
                    case rel => exact ⟨k + 1, by omega, by go_num, unhide O5⟩
                    case measure => simp [intOf]; omega
                  · have hge : ¬ ((k : Int) < 49) := by omega
                    have CL := hide ((unhide HH).st.left)
                    rw [unhide HL0] at CL
                    have KF := hide ((unhide T2).sz _ _ (unhide HH).st)
                    clear hlk
                    go_wp2_with fail
                    refine (unhide CL).mono ?_
                    rintro e wz ⟨rfl, rfl⟩
                    go_wp2_with fail
                    go_ret
                    exact ⟨rfl, (unhide KF).below (Nat.le_refl _) (fun _ h => h.elim)⟩
              | succ l =>
                have hpos : ((l + 1 : Nat) : Int) > 0 := by omega
                have CS := hide (ph_call (by decide) (unhide M) (unhide HH).st (unhide HOK) (by omega) (unhide HP))
                clear HP HOK
                go_wp2_with fail
                refine (unhide CL).mono ?_
                rintro e wq ⟨rfl, rfl⟩
                clear CL
                go_wp2_with fail
                refine (unhide CS).mono ?_
                rintro e w7 ⟨S2, A2, K2, E, D, l2, rfl, h1, h2, h3, h4, h5⟩
                rcases h5 with ⟨rfl, rfl, rfl⟩ | ⟨q, _⟩
                rotate_left
                · cases q
                have O6 := hide ((unhide HH).call (St' := WHas W m b x (fun A w G => Has W w G m A) S2 A2 K2) h1 h2)
                have HP2 := hide h4
                have HOK2 := hide h3
                have T2 := hide (WHas.stay (unhide M).toMemL b x S2 A2 K2)
                clear h1 h2 h3 h4 CS HH
                go_upto_region 20 with fail
                have O7 := hide ((unhide O6).drew (unhide T2))
                have CT := hide (fun w' (h : SRep m S2 w' b) => table_obj h)
                have hw2 : tabV S2.w = TV := by rw [(unhide HP2).1.w]; exact unhide HTV
                rw [hw2] at CT
                have RG : Hid (∀ wx : World, Held W (WHas W m b x (fun A w G => Has W w G m A) S2 A2 K2) wr wx (fun _ => False) [(g11, .cells (waV (waTo S A 49)) 57), (g10, .cells TV 41)] → wx.rangeAt g10 0 TV.toList) := fun wx O j v hv => by
                  rw [cell_of_block (O.at g10 (.cells TV 41) (by simp)), Nat.zero_add, ← Array.getElem?_toList]; exact hv
                have stl : (Try.prog.info? 41).map (·.size) = some TV.toList.length := by rw [Array.length_toList]; exact st
                refine wp_region_noPanic ?_
                refine wp_region_held_drew (S := fun w' => w'.rangeAt g10 0 TV.toList) (by kernel_rfl) (unhide RG _ (unhide O7)) (fun hHeld => ?_)
                clear O6 hw2
                generalize w7.drew = w8 at *
                refine take_at 0 80 (v := ?_) rfl rfl (by kernel_rfl) (by kernel_rfl) (by kernel_rfl) (Or.inl ⟨by rfl, ?_⟩) hHeld ?_
                rotate_left
                · intro w hSw; go_simp; with_reducible rfl
                simp only [Act.put, List.setIfInBounds_toArray, List.set_cons_zero, List.set_cons_succ]
                refine take_at 1 81 (v := ?_) rfl rfl (by kernel_rfl) (by kernel_rfl) (by kernel_rfl) (Or.inl ⟨by rfl, ?_⟩) hHeld ?_
                rotate_left
                · intro w hSw; go_simp; with_reducible rfl
                simp only [Act.put, List.setIfInBounds_toArray, List.set_cons_zero, List.set_cons_succ]
                refine take_at 2 82 (v := ?_) rfl rfl (by kernel_rfl) (by kernel_rfl) (by kernel_rfl) (Or.inl ⟨by rfl, ?_⟩) hHeld ?_
                rotate_left
                · intro w hSw; go_simp; with_reducible rfl
                simp only [Act.put, List.setIfInBounds_toArray, List.set_cons_zero, List.set_cons_succ]
                refine take_at 3 83 (v := ?_) rfl rfl (by kernel_rfl) (by kernel_rfl) (by kernel_rfl) (Or.inl ⟨by rfl, ?_⟩) hHeld ?_
                rotate_left
                · intro w hSw; go_simp; with_reducible rfl
                simp only [Act.put, List.setIfInBounds_toArray, List.set_cons_zero, List.set_cons_succ]
                refine take_at 5 85 rfl rfl (by kernel_rfl) (by kernel_rfl) (by kernel_rfl) (yieldsIf_load_mid (by rfl) 41 _ rfl g10 0 rfl TV.toList _ (fun w' h => h) Try.underlying41 rfl stl) hHeld ?_
                simp only [Act.put, List.setIfInBounds_toArray, List.set_cons_zero, List.set_cons_succ]
                refine wpAnyH_ready (rs := [4]) (by kernel_rfl) (by simp) ?_
                refine AllReadyH.cons rfl (fun K9 hK => ?_) AllReadyH.nil
                go_simp
                refine (unhide CT _ (unhide O7).st.rep).mono ?_
                rintro e w9 ⟨rfl, hb⟩
                have O8 := hide ((unhide O7).below (unhide T2) hb)
                clear hb O7 CT
                go_wp2_with fail
                refine hK.out _ _ (unhide RG _ (unhide O8)) (fun hNew => ?_)
                clear hK K9 hHeld
                have hHeld := hNew
                clear hNew
                refine take_at 6 86 rfl rfl (by kernel_rfl) (by kernel_rfl) (by kernel_rfl) (yieldsIf_neqA (by rfl) 41 _ (.tmp 84) (.tmp 85) rfl TV TV rfl rfl ztab_guard true (unhide EQT)) hHeld ?_
                simp only [Act.put, List.setIfInBounds_toArray, List.set_cons_zero, List.set_cons_succ]
                refine take_at 7 87 (v := ?_) rfl rfl (by kernel_rfl) (by kernel_rfl) (by kernel_rfl) (Or.inl ⟨by rfl, ?_⟩) hHeld ?_
                rotate_left
                · intro w hSw; go_simp; with_reducible rfl
                simp only [Act.put, List.setIfInBounds_toArray, List.set_cons_zero, List.set_cons_succ]
                refine wpAnyH_done (by kernel_rfl) ?_ _
                refine NoPanic.normal ?_
                clear hHeld RG stl
                go_wp2_with fail
                go_roundw
                case rel => exact ⟨j + 1, S2, A2, K2, l2, by omega, by go_num, unhide HP2, ok_mono (unhide HOK2) (by omega), unhide O8⟩
                case measure => simp [intOf]; omega
      · go_upto_region 9 with fail
        clear h1 h2
        generalize (i : Int) = lasti at *
        have T1 := hide (WHas.stay (unhide M).toMemL b x S A K0)
        have CT := hide (table_obj (unhide HW).rep)
        have st := s147_tab S.w
        have Zt := hide zero_tab
        have Xt := hide (tabV_one S.w)
        have SZt : Hid ((tabV fun _ => ze).size = (tabV S.w).size) := by show _ = _; rw [tabV_size, tabV_size]
        have EQT := hide (fun (w : World) => zequal_tab S.w w)
        generalize hTV : tabV S.w = TV at *
        have HTV := hide hTV
        clear hTV
        generalize (tabV fun _ => ze) = ZT at *
        go_wp2_with fail
        refine (unhide CT).mono ?_
        rintro e w2 ⟨rfl, hb⟩
        have O1 := hide (((Held.start (unhide T1) (unhide HW)).below (unhide T1) hb).alloc (unhide T1) (.cells TV 41))
        clear hb CT HW
        go_upto_region 10 with (first | (with_reducible refine wpList_allocZ (by with_unfolding_all rfl) 41 (by with_unfolding_all rfl) ZT (unhide Zt) ?_) | (with_reducible refine wpList_store_row (by with_unfolding_all rfl) 41 _ _ (by with_unfolding_all rfl) w2.heap.size TV (by with_unfolding_all rfl) (by with_unfolding_all rfl) 41 ZT (heap_new w2 _) st (unhide SZt) (unhide Xt) ?_; rw [setRow_alloc]))
        obtain ⟨g10, hg10⟩ : ∃ g, g = w2.heap.size := ⟨_, rfl⟩
        rw [← hg10] at O1 ⊢
        clear hg10
        generalize w2.alloc (.cells TV 41) = w3 at *
        have O2 := hide ((unhide O1).alloc (unhide T1) (.cells (waV (waTo S A 0)) 57))
        have h10 : g10 < w3.heap.size := (unhide O1).lt (g10, _) List.mem_cons_self
        have Zw := hide (zero_wa S A)
        have Bw := hide (built_wa S A)
        have sw := s490 (waTo S A 0)
        have Xw := hide (waV0_one S A)
        generalize hWV : waV (waTo S A 0) = WV at *
        clear O1 Zt SZt Xt
        go_upto_region 12 with (first | (with_reducible refine wpList_build0 (by with_unfolding_all rfl) 57 (by with_unfolding_all rfl) WV (unhide Bw) ?_) | (with_reducible refine wpList_allocZ (by with_unfolding_all rfl) 57 (by with_unfolding_all rfl) WV (unhide Zw) ?_) | (with_reducible refine wpList_store_row (by with_unfolding_all rfl) 57 _ _ (by with_unfolding_all rfl) w3.heap.size WV (by with_unfolding_all rfl) (by with_unfolding_all rfl) 57 WV (heap_new w3 _) sw rfl (unhide Xw) ?_; rw [setRow_alloc]))
        obtain ⟨g11, hg11⟩ : ∃ g, g = w3.heap.size := ⟨_, rfl⟩
        rw [← hg11] at O2 h10 ⊢
        clear hg11
        generalize w3.alloc (.cells WV 57) = w4 at *
        rw [← hWV] at O2
        clear Zw Bw sw Xw hWV
        have hAn : A.n ≤ 1024 := by rw [(unhide HD).n]; decide
        have CG := hide (fun (w' : World) G' (h' : WHas W m b x (fun A w G => Has W w G m A) S A K0 w' G') (z : Int) => h'.call fun G'' h'' => get_any (unhide M).toMemL h'' hAn z)
        go_wp2_with fail
        go_loopw [12] (fun q wq => ∃ k : Nat, k ≤ 49 ∧ q = .int .i64 k ∧ Held W (WHas W m b x (fun A w G => Has W w G m A) S A K0) wr wq (fun _ => False) [(g11, .cells (waV (waTo S A k)) 57), (g10, .cells TV 41)]) (fun q _ => 49 - (intOf q).toNat)
        case atStart => exact ⟨0, by omega, rfl, unhide O2⟩
        case round =>
          clear O2
          obtain ⟨k, hk, rfl, hh⟩ := hrel
          have HH := hide hh
          clear hh
          by_cases hlk : k < 49
          · have hk49 : (k : Int) < 49 := by omega
            have CGk := hide (unhide CG _ _ (unhide HH).st (k : Int))
            have HG : Hid (getT S A (k : Int) = .tuple #[.agg (S.getV A (k : Int)), .int .i64 (S.getE A (k : Int))]) := rfl
            rw [unhide HG] at CGk
            have hsz := getV_size S A (k : Int)
            have s10 : (Try.prog.info? 56).map (·.size) = some (S.getV A (k : Int)).size := by rw [hsz]; kernel_rfl
            have X10 := hide (getV_one S A (k : Int))
            have NX := hide (waTo_next S A k)
            generalize S.getE A (k : Int) = er at *
            have KP := hide (fun (w' : World) (h : w'.heap[g11]? = some (.cells (waV (waTo S A k)) 57 (0, 0))) => wa_put (S.getV A (k : Int)) hsz hlk h)
            rw [unhide NX] at KP
            clear HG NX
            generalize S.getV A (k : Int) = OV at *
            go_wp2_with fail
            refine (unhide CGk).mono ?_
            rintro e w5 ⟨rfl, h1, h2⟩
            have O3 := hide ((unhide HH).call (St' := WHas W m b x (fun A w G => Has W w G m A) S A K0) h1 h2)
            clear h1 h2 HH CGk
            have bk := (unhide O3).at g11 (.cells (waV (waTo S A k)) 57) (by simp)
            have TB : Hid (w5.there g11 (k * 10) OV.size) := by rw [hsz]; exact wa_there hlk bk
            have O4 := hide (((unhide O3).turnOwn (unhide T1) g11 (.cells (waV (waTo S A k)) 57) _ (by simp) (keeps_sets OV.toList (k * 10) _ _ (Keeps.refl _ _)) (unhide KP _ bk)).less (unhide T1) (L' := [(g11, .cells (waV (waTo S A (k + 1))) 57), (g10, .cells TV 41)]) (fun p hp => by
              rcases List.mem_cons.1 hp with rfl | hp
              · exact List.mem_cons_self
              · rcases List.mem_cons.1 hp with rfl | hp
                · exact List.mem_cons_of_mem _ (List.mem_filter.2 ⟨by simp, by simp; omega⟩)
                · cases hp))
            clear bk KP O3
            go_wp2_with (with_reducible refine wpList_store_mid (by with_unfolding_all rfl) 56 _ _ (by with_unfolding_all rfl) g11 (k * 10) OV (by with_unfolding_all rfl) (by with_unfolding_all rfl) (unhide TB) s10 (unhide X10) ?_)
            go_roundw
            case rel => exact ⟨k + 1, by omega, by go_num, unhide O4⟩
            case measure => simp [intOf]; omega
          · have hge : ¬ ((k : Int) < 49) := by omega
            have ek : k = 49 := by omega
            rw [ek] at HH
            clear hlk ek
            go_upto_region 15 with fail
            clear hge
            generalize (k : Int) = lastk at *
            clear CG
            have hleft := (unhide HD).left
            rw [left_300] at hleft
            obtain ⟨hz1, hz2⟩ : (0 : Int) ≤ (kq : Int) ∧ (kq : Int) ≤ two40 := ⟨by omega, by unfold two40; omega⟩
            obtain ⟨s1, s2⟩ := Ph.start (N := 300) (fr := true) (A0 := A) (K0 := K0) (z := (kq : Int)) (unhide HD).good (unhide HD).calm (unhide HD).n (unhide hK0).1 (unhide hK0).2.1 ⟨hz1, hz2⟩ (unhide HD).is (fun _ => by omega)
            have hn59 := stepsOf_len S.w S.b
            have HP := hide s2
            have HOK : Hid (A.ok 160) := ok_mono (unhide HD).ok (by omega)
            have CB := hide (wbegin_any (unhide M) (unhide HH).st (kq : Int))
            rw [s1] at CB
            clear s1 s2 hz1 hz2 hleft
            generalize (stepsOf S.w S.b).length = n0 at *
            generalize K0.beginS S (kq : Int) = S1 at *
            generalize K0.beginK S (kq : Int) = K1 at *
            go_wp2_with fail
            refine (unhide CK _).mono ?_
            rintro e w5 ⟨rfl, rfl⟩
            go_wp2_with fail
            refine (unhide CB).mono ?_
            rintro e w6 ⟨rfl, h1, h2⟩
            have O5 := hide ((unhide HH).call (St' := WHas W m b x (fun A w G => Has W w G m A) S1 A K1) h1 h2)
            clear h1 h2 HH CB CK
            go_wp2_with fail
            go_loopw [13, 14, 15] (fun q _ _ wq => ∃ (j : Nat) (S' : Sto) (A' : Mm) (K' : Wk) (l : Nat), j + l = n0 ∧ q = .int .i64 j ∧ Ph 300 true S A K0 S' A' K' 0 l ∧ A'.ok (160 + 11 * j) ∧ Held W (WHas W m b x (fun A w G => Has W w G m A) S' A' K') wr wq (fun _ => False) [(g11, .cells (waV (waTo S A 49)) 57), (g10, .cells TV 41)]) (fun q _ _ _ => n0 - (intOf q).toNat)
            case atStart => exact ⟨0, S1, A, K1, n0, by omega, rfl, unhide HP, unhide HOK, unhide O5⟩
            case round =>
              clear O5 HP HOK
              obtain ⟨j, S', A', K', l, hj, rfl, hp, hok, hh⟩ := hrel
              have HH := hide hh
              have HP := hide hp
              have HOK := hide hok
              clear hh hp hok
              have hlen := (unhide HP).len
              have CL := hide ((unhide HH).st.left)
              rw [hlen] at CL
              clear hlen
              have hj60 : (j : Int) < 60 := by omega
              cases l with
              | zero =>
                go_wp2_with fail
                refine (unhide CL).mono ?_
                rintro e wq ⟨rfl, rfl⟩
                clear CL
                go_upto_region 22 with fail
                clear hj60
                generalize (j : Int) = lastj at *
                have hAn2 : A'.n ≤ 1024 := by rw [(unhide HP).1.n]; decide
                have CG := hide (fun (w' : World) G' (h' : WHas W m b x (fun A w G => Has W w G m A) S' A' K' w' G') (z : Int) => h'.call fun G'' h'' => get_any (unhide M).toMemL h'' hAn2 z)
                have HSM := hide (fun k => get_same (unhide HP).1 (unhide HD).good (unhide HD).calm (unhide HD).n k)
                have HL0 : Hid (K'.l.length = 0) := (unhide HP).len
                have T2 := hide (WHas.stay (unhide M).toMemL b x S' A' K')
                clear HP HOK hAn2
                go_wp2_with fail
                go_loopw [16, 17, 18] (fun q _ _ wq => ∃ k : Nat, k ≤ 49 ∧ q = .int .i64 k ∧ Held W (WHas W m b x (fun A w G => Has W w G m A) S' A' K') wr wq (fun _ => False) [(g11, .cells (waV (waTo S A 49)) 57), (g10, .cells TV 41)]) (fun q _ _ _ => 49 - (intOf q).toNat)
                case atStart => exact ⟨0, by omega, rfl, unhide HH⟩
                case round =>
                  clear HH
                  obtain ⟨k, hk, rfl, hh⟩ := hrel
                  have HH := hide hh
                  clear hh
                  by_cases hlk : k < 49
                  · have hk49 : (k : Int) < 49 := by omega
                    have CGk := hide (unhide CG _ _ (unhide HH).st (k : Int))
                    rw [unhide HSM k] at CGk
                    have HG : Hid (getT S A (k : Int) = .tuple #[.agg (S.getV A (k : Int)), .int .i64 (S.getE A (k : Int))]) := rfl
                    rw [unhide HG] at CGk
                    have hsz := getV_size S A (k : Int)
                    have s10 : (Try.prog.info? 56).map (·.size) = some (S.getV A (k : Int)).size := by rw [hsz]; kernel_rfl
                    have s10l : (Try.prog.info? 56).map (·.size) = some (S.getV A (k : Int)).toList.length := by rw [Array.length_toList]; exact s10
                    have X10 := hide (getV_one S A (k : Int))
                    have HO49 : Hid (∀ q, q < 10 → waTo S A 49 k q = (S.getV A (k : Int)).getD q undef) := fun q _ => if_pos hlk
                    have EQO : Hid (∀ w : World, (Op.equalIn 10000 56 (.agg (S.getV A (k : Int))) (.agg (S.getV A (k : Int)))).run Try.prog w = .ok true w) := fun w => by
                      obtain ⟨k1, v1, f1, e⟩ := zgetV_ob S A (k : Int)
                      rw [e]; exact zequal_ob k1 v1 f1 w
                    have Z10 := hide zero_obz
                    have SZ10 : Hid ((obV 0 0 fun _ => 0).size = (S.getV A (k : Int)).size) := by show _ = _; rw [hsz, obV_size]
                    have RK : Hid (∀ wx : World, wx.heap[g11]? = some (.cells (waV (waTo S A 49)) 57 (0, 0)) → wx.rangeAt g11 (k * 10) (S.getV A (k : Int)).toList) := fun wx h => wa_range hlk _ hsz (unhide HO49) h
                    clear HG HO49
                    generalize S.getE A (k : Int) = er at *
                    generalize S.getV A (k : Int) = OV at *
                    generalize (obV 0 0 fun _ => 0) = ZO at *
                    go_wp2_with fail
                    refine (unhide CGk).mono ?_
                    rintro e w5 ⟨rfl, h1, h2⟩
                    have O3 := hide (((unhide HH).call (St' := WHas W m b x (fun A w G => Has W w G m A) S' A' K') h1 h2).alloc (unhide T2) (.cells OV 56))
                    clear h1 h2 HH CGk
                    go_upto_region 26 with (first | (with_reducible refine wpList_allocZ (by with_unfolding_all rfl) 56 (by with_unfolding_all rfl) ZO (unhide Z10) ?_) | (with_reducible refine wpList_store_row (by with_unfolding_all rfl) 56 _ _ (by with_unfolding_all rfl) w5.heap.size OV (by with_unfolding_all rfl) (by with_unfolding_all rfl) 56 ZO (heap_new w5 _) s10 (unhide SZ10) (unhide X10) ?_; rw [setRow_alloc]))
                    obtain ⟨g17, hg17⟩ : ∃ g, g = w5.heap.size := ⟨_, rfl⟩
                    rw [← hg17] at O3 ⊢
                    clear hg17
                    generalize w5.alloc (.cells OV 56) = w6 at *
                    have O4 := hide ((unhide O3).drew (unhide T2))
                    clear O3 Z10 SZ10 X10
                    have SS : Hid (w6.drew.rangeAt g17 0 OV.toList ∧ w6.drew.rangeAt g11 (k * 10) OV.toList) := ⟨fun j u hu => by rw [cell_of_block ((unhide O4).at g17 (.cells OV 56) (by simp)), Nat.zero_add, ← Array.getElem?_toList]; exact hu, unhide RK _ ((unhide O4).at g11 (.cells (waV (waTo S A 49)) 57) (by simp))⟩
                    refine wp_region_noPanic ?_
                    refine wp_region_held_drew (S := fun w' => w'.rangeAt g17 0 OV.toList ∧ w'.rangeAt g11 (k * 10) OV.toList) (by kernel_rfl) (unhide SS) (fun hHeld => ?_)
                    generalize w6.drew = w7 at *
                    clear SS RK
                    refine take_at 0 98 rfl rfl (by kernel_rfl) (by kernel_rfl) (by kernel_rfl) (yieldsIf_load_mid (by rfl) 56 _ rfl g17 0 rfl OV.toList _ (fun w' h => h.1) Try.underlying56 rfl s10l) hHeld ?_
                    simp only [Act.put, List.setIfInBounds_toArray, List.set_cons_zero, List.set_cons_succ]
                    refine take_at 1 99 (v := ?_) rfl rfl (by kernel_rfl) (by kernel_rfl) (by kernel_rfl) (Or.inl ⟨by rfl, ?_⟩) hHeld ?_
                    rotate_left
                    · intro w hSw; go_simp; with_reducible rfl
                    simp only [Act.put, List.setIfInBounds_toArray, List.set_cons_zero, List.set_cons_succ]
                    refine take_at 2 100 (v := .pointer (some ⟨g11, k * 10, none⟩)) rfl rfl (by kernel_rfl) (by kernel_rfl) (by kernel_rfl) (Or.inl ⟨by rfl, ?_⟩) hHeld ?_
                    · intro w hSw
                      first | (go_simp; done) | (go_simp; rfl)
                    simp only [Act.put, List.setIfInBounds_toArray, List.set_cons_zero, List.set_cons_succ]
                    refine take_at 3 101 rfl rfl (by kernel_rfl) (by kernel_rfl) (by kernel_rfl) (yieldsIf_load_mid (by rfl) 56 _ rfl g11 (k * 10) rfl OV.toList _ (fun w' h => h.2) Try.underlying56 rfl s10l) hHeld ?_
                    simp only [Act.put, List.setIfInBounds_toArray, List.set_cons_zero, List.set_cons_succ]
                    refine take_at 4 102 rfl rfl (by kernel_rfl) (by kernel_rfl) (by kernel_rfl) (yieldsIf_neqA (by rfl) 56 _ (.tmp 98) (.tmp 101) rfl OV OV rfl rfl zob_guard true (unhide EQO)) hHeld ?_
                    simp only [Act.put, List.setIfInBounds_toArray, List.set_cons_zero, List.set_cons_succ]
                    refine wpAnyH_done (by kernel_rfl) ?_ _
                    refine NoPanic.normal ?_
                    clear hHeld
                    have O5 := hide ((unhide O4).less (unhide T2) (L' := [(g11, .cells (waV (waTo S A 49)) 57), (g10, .cells TV 41)]) (by simp))
                    clear O4
                    go_wp2_with fail
                    go_roundw
                    case rel => exact ⟨k + 1, by omega, by go_num, unhide O5⟩
                    case measure => simp [intOf]; omega
                  · have hge : ¬ ((k : Int) < 49) := by omega
                    have CL := hide ((unhide HH).st.left)
                    rw [unhide HL0] at CL
                    have KF := hide ((unhide T2).sz _ _ (unhide HH).st)
                    clear hlk
                    go_wp2_with fail
                    refine (unhide CL).mono ?_
                    rintro e wz ⟨rfl, rfl⟩
                    go_wp2_with fail
                    go_ret
                    exact ⟨rfl, (unhide KF).below (Nat.le_refl _) (fun _ h => h.elim)⟩
              | succ l =>
                have hpos : ((l + 1 : Nat) : Int) > 0 := by omega
                have CS := hide (ph_call (by decide) (unhide M) (unhide HH).st (unhide HOK) (by omega) (unhide HP))
                clear HP HOK
                go_wp2_with fail
                refine (unhide CL).mono ?_
                rintro e wq ⟨rfl, rfl⟩
                clear CL
                go_wp2_with fail
                refine (unhide CS).mono ?_
                rintro e w7 ⟨S2, A2, K2, E, D, l2, rfl, h1, h2, h3, h4, h5⟩
                rcases h5 with ⟨rfl, rfl, rfl⟩ | ⟨q, _⟩
                rotate_left
                · cases q
                have O6 := hide ((unhide HH).call (St' := WHas W m b x (fun A w G => Has W w G m A) S2 A2 K2) h1 h2)
                have HP2 := hide h4
                have HOK2 := hide h3
                have T2 := hide (WHas.stay (unhide M).toMemL b x S2 A2 K2)
                clear h1 h2 h3 h4 CS HH
                go_upto_region 20 with fail
                have O7 := hide ((unhide O6).drew (unhide T2))
                have CT := hide (fun w' (h : SRep m S2 w' b) => table_obj h)
                have hw2 : tabV S2.w = TV := by rw [(unhide HP2).1.w]; exact unhide HTV
                rw [hw2] at CT
                have RG : Hid (∀ wx : World, Held W (WHas W m b x (fun A w G => Has W w G m A) S2 A2 K2) wr wx (fun _ => False) [(g11, .cells (waV (waTo S A 49)) 57), (g10, .cells TV 41)] → wx.rangeAt g10 0 TV.toList) := fun wx O j v hv => by
                  rw [cell_of_block (O.at g10 (.cells TV 41) (by simp)), Nat.zero_add, ← Array.getElem?_toList]; exact hv
                have stl : (Try.prog.info? 41).map (·.size) = some TV.toList.length := by rw [Array.length_toList]; exact st
                refine wp_region_noPanic ?_
                refine wp_region_held_drew (S := fun w' => w'.rangeAt g10 0 TV.toList) (by kernel_rfl) (unhide RG _ (unhide O7)) (fun hHeld => ?_)
                clear O6 hw2
                generalize w7.drew = w8 at *
                refine take_at 0 80 (v := ?_) rfl rfl (by kernel_rfl) (by kernel_rfl) (by kernel_rfl) (Or.inl ⟨by rfl, ?_⟩) hHeld ?_
                rotate_left
                · intro w hSw; go_simp; with_reducible rfl
                simp only [Act.put, List.setIfInBounds_toArray, List.set_cons_zero, List.set_cons_succ]
                refine take_at 1 81 (v := ?_) rfl rfl (by kernel_rfl) (by kernel_rfl) (by kernel_rfl) (Or.inl ⟨by rfl, ?_⟩) hHeld ?_
                rotate_left
                · intro w hSw; go_simp; with_reducible rfl
                simp only [Act.put, List.setIfInBounds_toArray, List.set_cons_zero, List.set_cons_succ]
                refine take_at 2 82 (v := ?_) rfl rfl (by kernel_rfl) (by kernel_rfl) (by kernel_rfl) (Or.inl ⟨by rfl, ?_⟩) hHeld ?_
                rotate_left
                · intro w hSw; go_simp; with_reducible rfl
                simp only [Act.put, List.setIfInBounds_toArray, List.set_cons_zero, List.set_cons_succ]
                refine take_at 3 83 (v := ?_) rfl rfl (by kernel_rfl) (by kernel_rfl) (by kernel_rfl) (Or.inl ⟨by rfl, ?_⟩) hHeld ?_
                rotate_left
                · intro w hSw; go_simp; with_reducible rfl
                simp only [Act.put, List.setIfInBounds_toArray, List.set_cons_zero, List.set_cons_succ]
                refine take_at 5 85 rfl rfl (by kernel_rfl) (by kernel_rfl) (by kernel_rfl) (yieldsIf_load_mid (by rfl) 41 _ rfl g10 0 rfl TV.toList _ (fun w' h => h) Try.underlying41 rfl stl) hHeld ?_
                simp only [Act.put, List.setIfInBounds_toArray, List.set_cons_zero, List.set_cons_succ]
                refine wpAnyH_ready (rs := [4]) (by kernel_rfl) (by simp) ?_
                refine AllReadyH.cons rfl (fun K9 hK => ?_) AllReadyH.nil
                go_simp
                refine (unhide CT _ (unhide O7).st.rep).mono ?_
                rintro e w9 ⟨rfl, hb⟩
                have O8 := hide ((unhide O7).below (unhide T2) hb)
                clear hb O7 CT
                go_wp2_with fail
                refine hK.out _ _ (unhide RG _ (unhide O8)) (fun hNew => ?_)
                clear hK K9 hHeld
                have hHeld := hNew
                clear hNew
                refine take_at 6 86 rfl rfl (by kernel_rfl) (by kernel_rfl) (by kernel_rfl) (yieldsIf_neqA (by rfl) 41 _ (.tmp 84) (.tmp 85) rfl TV TV rfl rfl ztab_guard true (unhide EQT)) hHeld ?_
                simp only [Act.put, List.setIfInBounds_toArray, List.set_cons_zero, List.set_cons_succ]
                refine take_at 7 87 (v := ?_) rfl rfl (by kernel_rfl) (by kernel_rfl) (by kernel_rfl) (Or.inl ⟨by rfl, ?_⟩) hHeld ?_
                rotate_left
                · intro w hSw; go_simp; with_reducible rfl
                simp only [Act.put, List.setIfInBounds_toArray, List.set_cons_zero, List.set_cons_succ]
                refine wpAnyH_done (by kernel_rfl) ?_ _
                refine NoPanic.normal ?_
                clear hHeld RG stl
                go_wp2_with fail
                go_roundw
                case rel => exact ⟨j + 1, S2, A2, K2, l2, by omega, by go_num, unhide HP2, ok_mono (unhide HOK2) (by omega), unhide O8⟩
                case measure => simp [intOf]; omega

set_option maxRecDepth 100000 in
theorem lifted (os : Os) (started : os.Started) (H : Type) (enc : TypeId × Value → H) :
    ReturnsInHanded {} Try.checked os 4 .any (Rows.snapQuietSpec.pre6 enc Try.prog Try.f4 Rows.snapQuietRow.domain false) (Rows.snapQuietSpec.post enc Try.prog Try.f4 false true false false) := by
  refine law_frame (C := Try.checked) (ts := [22, 3]) (tb := 4) (by kernel_rfl) started (by kernel_rfl) Try.func4 Try.params4 (by kernel_rfl) Try.underlying4 (by kernel_rfl) (by kernel_rfl) rfl ?_
    (ChangeSpec.witness6 (enc := enc) (C := Try.checked) false ⟨#[], #[.slice none 0 0, .int .i64 0], []⟩ 8 (by kernel_rfl) (by kernel_rfl) (by kernel_rfl) (by kernel_rfl)) ?_
  · intro ds hd
    match ds, hd with
    | [d0, d1], _ => rfl
  · intro W base args ds p hval hA
    obtain ⟨v0, vs0, d0, ds0, p0, q0, hargs, rfl, rfl, h0, r0⟩ := trodAll_cons hA
    obtain ⟨v1, vs1, d1, ds1, p1, q1, rfl, rfl, rfl, h1, r1⟩ := trodAll_cons r0
    obtain ⟨rfl, rfl, rfl⟩ := trodAll_nil r1
    obtain rfl : args = #[v0, v1] := by cases args; simp_all
    obtain ⟨a, n, cap, o, rfl, hO⟩ := open_zops (hval 0 22 v0 rfl rfl) h0
    obtain ⟨sq, rfl, rfl, rfl, wsq⟩ := open_int Try.underlying3 (hval 1 3 v1 rfl rfl) h1
    exact walk W a n cap o sq hO wsq

theorem over : Rows.snapQuietRow.holds Try.pinned (OpenSpec.ofChange Rows.snapQuietSpec) :=
  OpenClaim.holds_of_wide 4 Try.f4 rfl rfl rfl rfl rfl rfl rfl ⟨rfl, rfl, rfl, rfl, rfl⟩ rfl rfl rfl rfl rfl (by kernel_rfl) Try.func4 (by kernel_rfl)
    (of_decide_eq_true (by kernel_rfl)) (by unfold Func.isWrapper; first | (rw [if_pos (by decide +kernel)]; kernel_rfl) | (rw [if_neg (by decide +kernel)]; exact ⟨rfl, rfl⟩))
    (fun os started H enc _ => lifted os started H enc)

end Go.Proofs.Ytinhnnnehhlceaa.snapQuiet
namespace Go.Proofs.Ytinhnnnehhlceaa
theorem snapQuiet_holds : Rows.SnapQuietSaid := snapQuiet.over
end Go.Proofs.Ytinhnnnehhlceaa
