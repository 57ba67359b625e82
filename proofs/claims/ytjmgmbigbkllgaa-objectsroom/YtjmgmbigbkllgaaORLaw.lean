
/-
  For any number of lines, any numbers, ObjectsRoom returns true: there is Room just where the Sets and the Makes all go well. No condition.
-/
import Derived.Test.YtjmgmbigbkllgaaORoomM
import Derived.Test.YtjmgmbigbkllgaaORow
import Derived.Test.YtjmgmbigbkllgaaOSteps
import Derived.Test.YtjmgmbigbkllgaaLaw
import Derived.Test.YtjmgmbigbkllgaaRows
namespace Go.Proofs.Ytjmgmbigbkllgaa.objectsRoom
open Go.ChangeShapes Go.WideShapes Go.ChangeAt Go.RowKit Go.Joins
set_option linter.unusedVariables false
set_option linter.unusedSimpArgs false
set_option maxRecDepth 100000

/-- How many frames are left, read off the store's cells. -/
def cellZ (w : World) (b i : Nat) : Int := match w.cell? ⟨b, i, none⟩ with | some (.int _ z) => z | _ => 1
def leftW (w : World) (b N : Nat) : Nat := (List.range N).countP fun i => decide (10 ≤ i) && (cellZ w b (3 + i) == 0)
theorem leftW_is {m : Nat} {S : Sto} {w : World} {b N : Nat} (h : SRep m S w b) (h1 : S.F.lo = 10 ∧ S.F.hi = N) (hN : N ≤ 1024) : leftW w b N = S.F.left := by
  unfold leftW Fr.left Fr.leftTo
  rw [h1.2]
  apply List.countP_congr
  intro i hi
  have hi' := List.mem_range.1 hi
  have hc : cellZ w b (3 + i) = S.F.s i := by
    unfold cellZ
    rw [Blk.cell h (3 + i) (by omega), show 3 + i = 1 + (2 + i) by omega, stF_fr _ _ _ (by omega)]
    have : frF S.F (2 + i) = .int .i64 (S.F.s i) := by unfold frF; rw [if_neg (by omega), if_neg (by omega), show 2 + i - 2 = i by omega]
    rw [this]
  rw [hc]
  unfold Fr.fr
  rw [h1.1]
/-- Behind some Takes. -/
structure TInv (S : Sto) (N : Nat) : Prop where
  inv : Inv S
  ok : S.ok
  lh : S.F.lo = 10 ∧ S.F.hi = N
  w : S.w = tblF 12
  b : S.b = tblF 12
  k : S.k = fun _ => ze
theorem TInv.start (N : Nat) (h1 : 64 ≤ N) (h2 : N ≤ 1024) : TInv (sS 12 N) N := ⟨inv_sS N h1 12 (by decide), sS_ok 12 N (by omega) h2, sS_lo 12 N, rfl, rfl, rfl⟩
theorem TInv.took {S : Sto} {N : Nat} (h : TInv S N) : TInv S.took N := ⟨inv_took h.inv, took_ok h.ok, ⟨(alloc_lo _).1.trans h.lh.1, (alloc_lo _).2.trans h.lh.2⟩, h.w, h.b, h.k⟩
theorem tbl_found : ∀ k : Nat, k < 12 → (tblF 12 k).k ≠ 0 := by decide +kernel
theorem tbl_open : ∀ k : Nat, 12 ≤ k → k < 49 → opB (tblF 12 k) = true := by
  intro k h1 _
  unfold tblF; rw [if_neg (by omega)]; decide
theorem TInv.findE {S : Sto} {N : Nat} (h : TInv S N) (k : Nat) (hk : k < 12) : S.findE (k : Int) = 0 := by
  unfold Sto.findE
  rw [if_pos ⟨by omega, by omega⟩, Int.toNat_natCast, h.w, if_neg (tbl_found k hk)]
theorem TInv.own {S : Sto} {N : Nat} (h : TInv S N) (k : Nat) (hk : k < 12) : S.own (S.line (k : Int)) = false := by
  have : hasB S.b (S.line (k : Int)) = true := by
    unfold Sto.line
    rw [Int.toNat_natCast, h.w, h.b]
    exact (hasB_iff _ _).2 ⟨k, by omega, tbl_found k hk, rfl⟩
  unfold Sto.own
  rw [this]; rfl
theorem TInv.wants {S : Sto} {N : Nat} (h : TInv S N) (k : Nat) (hk : k < 12) : S.wants (k : Int) = true := wants_yes S _ (h.findE k hk) (h.own k hk)
theorem TInv.rinv {S : Sto} {N : Nat} (h : TInv S N) (A : Mm) (hA : Calm A) (hn : A.n = N) (l : List Int) : RInv S S A l 0 S.F.left true :=
  ⟨h.inv, h.ok, hA, by rw [h.lh.2, hn]; exact Nat.le_refl _, rfl, rfl, h.findE, fun k h1 h2 => by rw [h.w]; exact tbl_open k h1 h2, fun _ => ⟨fun k hk => by rw [h.own k hk]; simp, by show _ + 0 = _; rfl⟩, fun e => by cases e⟩

set_option maxHeartbeats 16000000 in
theorem walk (W : World) (z : Int) (a : Option Addr) (zs : List Int) (n cap : Nat) (mo : Int) (wz : (Lit.int .i64 z).wf = true) (hV : IsRow W .i64 a zs n cap) (wm : (Lit.int .i64 mo).wf = true) :
    Calls Try.prog 6 #[.int .i64 z, .slice a n cap, .int .i64 mo] W fun e W' => e = .returned (.bool true) ∧ Below W.heap.size W W' := by
  have hz : In64 z := in64_wf wz
  have hmo : In64 mo := in64_wf wm
  have C64 := hide (okind_any z hz 64 (by decide) (by decide))
  have C20 := hide (okind_any z hz 20 (by decide) (by decide))
  have CM := hide (okind_any mo hmo 10 (by decide) (by decide))
  have k64 := kindN_lt z 64 (by decide)
  have km10 := kindN_lt mo 10 (by decide)
  obtain ⟨d64, h64⟩ : ∃ d, d = kindN z 64 := ⟨_, rfl⟩
  obtain ⟨d20, h20⟩ : ∃ d, d = kindN z 20 := ⟨_, rfl⟩
  obtain ⟨km, hkm⟩ : ∃ d, d = kindN mo 10 := ⟨_, rfl⟩
  rw [← h64] at C64 k64
  rw [← h20] at C20
  rw [← hkm] at CM km10
  clear h64 h20 hkm hz hmo wz wm
  have HV := hide hV
  clear hV
  obtain ⟨N, hN⟩ : ∃ N, N = 64 + d64 := ⟨_, rfl⟩
  have hN1 : 64 ≤ N := by omega
  have hN2 : N ≤ 1024 := by omega
  have CN : Hid (∀ w, Calls Try.prog 9 #[.int .i64 (64 + (d64 : Int))] w (Made w N fun _ _ => 0)) := fun w => by
    have := new_any w N hN1 hN2
    rw [show ((N : Nat) : Int) = 64 + (d64 : Int) by rw [hN]; simp] at this
    exact this
  clear hN
  go_enter Try.func6, Try.ntmps6
  go_wp2_with fail
  refine (oshown_any W).mono ?_
  rintro e w0 ⟨rfl, hk0⟩
  have HK0 := hide hk0
  clear hk0
  go_wp2_with fail
  refine (unhide C64 _).mono ?_
  rintro e w0 ⟨rfl, rfl⟩
  go_wp2_with fail
  refine (unhide CN _).mono ?_
  intro e w1 hm
  obtain ⟨m, rfl, h0, -⟩ := made_has W (unhide HK0) hm (fun _ => False) (fun _ h => h.elim)
  have H0 : Hid (Has W w1 (fun _ => False) m (sA N)) := h0
  have T0 : Hid (Stay W (fun w G => Has W w G m (sA N))) := Has.stay W m _
  clear hm h0 HK0 C64 CN
  generalize (64 : Int) + (d64 : Int) = n64 at *
  generalize (d64 : Int) = dd at *
  go_wp2_with fail
  refine (table_any 12 (by decide) w1).mono ?_
  rintro e w2 ⟨rfl, hb⟩
  have H1 : Hid (Has W w2 (fun _ => False) m (sA N)) := (unhide T0).bl _ _ _ (unhide H0) (Keeps.of_below hb)
  clear hb H0
  go_wp2_with fail
  refine (dir_any w2).mono ?_
  rintro e w3 ⟨rfl, hb⟩
  have H2 : Hid (Has W w3 (fun _ => False) m (sA N)) := (unhide T0).bl _ _ _ (unhide H1) (Keeps.of_below hb)
  clear hb H1 T0
  go_wp2_with fail
  refine (sof_tbl 12 N (by decide) hN1 hN2 w3 _ (unhide H2)).mono ?_
  rintro e w4 ⟨b, rfl, h1, -⟩
  have HS : Hid (SHas W m b (fun A w G => Has W w G m A) (sS 12 N) (sA N) w4 (fun _ => False)) := h1
  clear h1 H2
  have M := hide (Has.memL W m)
  go_wp2_with fail
  go_loopw [50] (fun _ wr => ∃ S : Sto, TInv S N ∧ SHas W m b (fun A w G => Has W w G m A) S (sA N) wr (fun _ => False)) (fun _ wr => leftW wr b N)
  case atStart => exact ⟨_, TInv.start N hN1 hN2, unhide HS⟩
  case round =>
    clear HS
    obtain ⟨S, ht, hh⟩ := hrel
    have HH := hide hh
    have TI := hide ht
    clear hh ht
    have CL := hide (left_obj (unhide HH).rep (unhide TI).ok)
    have LW := hide (leftW_is (unhide HH).rep (unhide TI).lh hN2)
    go_wp2_with fail
    refine (unhide CL).mono ?_
    rintro e wr ⟨rfl, rfl⟩
    go_wp2_with fail
    refine (unhide C20 _).mono ?_
    rintro e wr ⟨rfl, rfl⟩
    by_cases hgt : d20 < S.F.left
    · have hg : (d20 : Int) < (S.F.left : Int) := by omega
      have ha : S.F.allocE = 0 := by
        rcases Classical.em (S.F.allocE = 0) with h | h
        · exact h
        · have := left_none h; omega
      have hl := left_alloc ha
      have CT := hide (take_obj (unhide M) (unhide HH) (unhide TI).ok)
      have TK := hide (unhide TI).took
      generalize S.F.allocE = ae at *
      generalize S.F.allocV = av at *
      go_wp2_with fail
      refine (unhide CT).mono ?_
      rintro e w5 ⟨rfl, h1, h2⟩
      have HN := hide h1
      have LW2 := hide (leftW_is h1.rep (unhide TK).lh hN2)
      clear h1 h2 CT
      go_wp2_with fail
      go_roundw
      case rel => exact ⟨_, unhide TK, unhide HN⟩
      case measure => rw [unhide LW2, unhide LW]; show S.F.allocA.left < _; omega
    · have hg : ¬ ((d20 : Int) < (S.F.left : Int)) := by omega
      clear CL LW C20 hgt
      generalize (S.F.left : Int) = lfi at *
      generalize (d20 : Int) = ddd at *
      obtain ⟨v1, v2, v3, v4, v5⟩ := unhide HV
      have V2 := hide v2
      have V3 := hide v3
      clear v2 v3
      obtain ⟨n20, hn20⟩ : ∃ n20, n20 = min n 20 := ⟨_, rfl⟩
      have hmn : n20 ≤ n := by omega
      have hm20 : n20 ≤ 20 := by omega
      have hmm : n20 = n ∨ n20 = 20 := by omega
      clear hn20
      obtain ⟨f, hf⟩ : ∃ f : Nat → Int, f = fun i => (kindN (zs.getD i 0) 12 : Int) := ⟨_, rfl⟩
      have HF := hide hf
      clear hf
      have KW : Hid (∀ w', Keeps (fun _ => False) wr w' → SHas W m b (fun A w G => Has W w G m A) S (sA N) w' (fun _ => False)) := fun w' hk => (SHas.stay (unhide M) b _ _).bl _ _ _ (unhide HH) hk
      have R0 : Hid (RowSt wr (wr.alloc (.cells #[] 3)) (.slice (some ⟨wr.heap.size, 0, none⟩) 0 0) ((List.range 0).map f) []) :=
        ⟨(Keeps.refl _ _).alloc _, World.ownsRow_lit (base := wr.heap.size) (e := 3) (size := 1) wr #[] 0 (Nat.le_refl _) (by decide) rfl, by simp⟩
      clear HH
      go_upto_region 12 with fail
      generalize wr.alloc (.cells #[] 3) = w6 at *
      generalize wr.heap.size = g0 at *
      go_wp2_with fail
      go_loopw [12, 13] (fun v q wq => ∃ j : Nat, j ≤ n20 ∧ q = .int .i64 j ∧ RowSt wr wq v ((List.range j).map f) []) (fun _ q _ => n20 - (intOf q).toNat)
      case atStart => exact ⟨0, by omega, rfl, unhide R0⟩
      case round =>
        clear R0
        obtain ⟨j, hj, rfl, hr⟩ := hrel
        have RS := hide hr
        clear hr
        by_cases hlt : j < n20
        · obtain ⟨x, off, rfl, hx⟩ : ∃ x off, a = some ⟨x, off, none⟩ ∧ ∀ i, i < zs.length → W.cell? ⟨x, off + i, none⟩ = some (.int .i64 (zs.getD i 0)) := by
            rcases unhide V2 with h | h
            · rw [h] at v1; simp at v1; omega
            · exact h
          have cx := (unhide KW _ (unhide RS).kp).st.keeps.cellOf (hx j (by omega)) id
          have hjn : (j : Int) < (n : Int) := by omega
          have hj20 : (j : Int) < 20 := by omega
          have CK : Hid (∀ w, Calls Try.prog 16 #[.int .i64 (zs.getD j 0), .int .i64 12] w fun e w' => e = .returned (.int .i64 (f j)) ∧ w' = w) := fun w => by
            rw [unhide HF]
            exact okind_any (zs.getD j 0) (in64_wf (unhide V3 _ (by rw [List.getD_eq_getElem?_getD, List.getElem?_eq_getElem (by omega)]; simp))) 12 (by decide) (by decide) w
          have hlen : ((List.range j).map f).length < 1000 := by simp; omega
          have EX : Hid ((List.range (j + 1)).map f = (List.range j).map f ++ [f j]) := by show _ = _; rw [List.range_succ]; simp
          clear hx
          generalize zs.getD j 0 = zj at *
          generalize f j = fj at *
          go_wp2_with fail
          refine (unhide CK _).mono ?_
          rintro e w7 ⟨rfl, rfl⟩
          clear cx
          go_wp2_with (at_builtin; refine push_st fj rfl (.tmp 62) (.tmp 68) rfl rfl (unhide RS) rfl hlen ?_; intro v1' w8 st1; have RS1 := hide st1; clear st1)
          go_roundw
          case rel => exact ⟨j + 1, by omega, by go_num, by rw [unhide EX]; exact unhide RS1⟩
          case measure => simp [intOf]; omega
        · have hjm : j = n20 := by omega
          obtain ⟨a1, cap1, Lr, rfl, hheld, hli⟩ := held_row (SHas.stay (unhide M) b _ _) (unhide KW _ (Keeps.refl _ _)) (unhide RS).kp (unhide RS).2.1
          have OH := hide hheld
          have LI := hide hli
          have TI2 := hide (unhide TI)
          have HL12 : Hid (∀ i, i < ((List.range j).map f).length → ∃ k : Nat, k < 12 ∧ ((List.range j).map f).getD i 0 = (k : Int)) := fun i hi => by
            rw [List.length_map, List.length_range] at hi
            exact ⟨kindN (zs.getD i 0) 12, kindN_lt _ _ (by decide), by rw [List.getD_eq_getElem?_getD, List.getElem?_map, List.getElem?_range hi, unhide HF]; rfl⟩
          have hl20 : ((List.range j).map f).length ≤ 20 := by simp; omega
          have HM : Hid (Calm (sA N) ∧ (sA N).n = N ∧ (sA N).ok 0) := ⟨calm_new _ _, rfl, sA_ok N hN1 hN2⟩
          clear hheld hli RS KW TI
          generalize (List.range j).map f = l at *
          generalize sA N = A at *
          have HJ := hide (And.intro hjm hlt)
          by_cases hjn : (j : Int) < (n : Int)
          · have hge : ¬ ((j : Int) < 20) := by omega
            go_upto_region 15 with fail
            clear HJ HF HV V2 V3
            generalize (j : Int) = last at *
            have CR := hide (room_any (unhide OH).st.rep (unhide TI2).ok a1 l cap1 (unhide LI _ (fun p hp => (unhide OH).at p.1 p.2 hp)) (by omega) (km : Int) (by omega))
            go_wp2_with fail
            refine (unhide CM _).mono ?_
            rintro e wq ⟨rfl, rfl⟩
            go_wp2_with fail
            refine (unhide CR).mono ?_
            rintro e w9 ⟨rfl, hb⟩
            have O1 := hide ((unhide OH).below (SHas.stay (unhide M) b _ _) hb)
            clear hb CR OH CM
            obtain ⟨rm, hrm⟩ : ∃ rm, rm = S.roomB l (km : Int) := ⟨_, rfl⟩
            rw [← hrm]
            have HRM : Hid (rm = S.roomB l (km : Int)) := hrm
            clear hrm
            obtain ⟨hA1, hA2, hA3⟩ := unhide HM
            have R0 := hide ((unhide TI2).rinv A hA1 hA2 l)
            have W12 := hide (fun k hk => (unhide TI2).wants k hk)
            clear hA1 hA2
            go_wp2_with fail
            go_loopw [16, 17] (fun fv q wr => ∃ i : Nat, i ≤ l.length ∧ q = .int .i64 i ∧ ∃ (fine : Bool) (T : Sto) (B : Mm), fv = .bool fine ∧ RInv S T B l i S.F.left fine ∧ B.ok (8 * i) ∧ Held W (SHas W m b (fun A w G => Has W w G m A) T B) w9 wr (fun _ => False) Lr) (fun _ q _ => l.length - (intOf q).toNat)
            case atStart => exact ⟨0, by omega, rfl, true, S, A, rfl, unhide R0, hA3, ⟨(unhide O1).1, (unhide O1).2.1, fun k hk => hk.elim⟩⟩
            case round =>
              clear R0 O1 HM
              obtain ⟨i, hi, rfl, fine, T, B, rfl, hr, hB, hh⟩ := hrel
              have HH := hide hh
              have RI := hide hr
              have HB := hide hB
              clear hh hr hB
              by_cases hlt : i < l.length
              · have hll : (i : Int) < (l.length : Int) := by omega
                cases fine with
                | true =>
                  obtain ⟨k, hk, hkl⟩ := unhide HL12 i hlt
                  have RI2 := hide ((unhide RI).step hlt hkl hk (unhide W12 k hk))
                  have HB2 := hide (setM_ok (S := T) (unhide HB) (k : Int) 0 1 ⟨by decide, by decide⟩)
                  have CS := hide (set_any (unhide M) (unhide HH).st (unhide RI).ok (ok_mono (unhide HB) (by omega)) (k : Int) 0 1 ⟨by decide, by decide⟩)
                  obtain ⟨x, off, rfl, hx⟩ : ∃ x off, a1 = some ⟨x, off, none⟩ ∧ ∀ i, i < l.length → wr.cell? ⟨x, off + i, none⟩ = some (.int .i64 (l.getD i 0)) := by
                    rcases unhide LI _ (fun p hp => (unhide HH).at p.1 p.2 hp) with h | h
                    · rw [h] at hlt; simp at hlt
                    · exact h
                  have cx := hx i hlt
                  rw [hkl] at cx
                  clear hx hkl
                  generalize T.setS B (k : Int) 0 1 = T1 at *
                  generalize T.setM B (k : Int) 0 1 = B1 at *
                  generalize T.setE B (k : Int) 0 1 = E9 at *
                  go_wp2_with fail
                  refine (unhide CS).mono ?_
                  rintro e wa ⟨rfl, h1, h2⟩
                  have HH2 := hide ((unhide HH).call (St' := SHas W m b (fun A w G => Has W w G m A) T1 B1) h1 h2)
                  clear h1 h2 CS HH cx
                  by_cases hE : E9 = 0
                  · subst hE
                    go_wp2_with fail
                    go_roundw
                    case rel => exact ⟨i + 1, by omega, by go_num, true, T1, B1, rfl, unhide RI2, ok_mono (unhide HB2) (by omega), unhide HH2⟩
                    case measure => simp [intOf]; omega
                  · have hE1 : (E9 == 0) = false := by simpa using hE
                    have RI3 : Hid (RInv S T1 B1 l (i + 1) S.F.left false) := by show RInv _ _ _ _ _ _ _; rw [← hE1]; exact unhide RI2
                    clear hE RI2
                    go_wp2_with fail
                    go_roundw
                    case rel => exact ⟨i + 1, by omega, by go_num, false, T1, B1, rfl, unhide RI3, ok_mono (unhide HB2) (by omega), unhide HH2⟩
                    case measure => simp [intOf]; omega
                | false =>
                  go_wp2_with fail
                  go_roundw
                  case rel => exact ⟨i + 1, by omega, by go_num, false, T, B, rfl, (unhide RI).skip, ok_mono (unhide HB) (by omega), unhide HH⟩
                  case measure => simp [intOf]; omega
              · have ei : i = l.length := by omega
                have MI : Hid (MInv T B 0 (S.needTo l l.length) S.F.left fine) := by
                  have := unhide RI
                  rw [ei] at this
                  exact this.makes
                have HB2 : Hid (B.ok 160) := ok_mono (unhide HB) (by omega)
                have HRM2 : Hid (rm = decide (0 ≤ (km : Int) ∧ (km : Int) ≤ (S.F.left : Int) - (S.needTo l l.length : Int))) := unhide HRM
                have hge : ¬ ((i : Int) < (l.length : Int)) := by omega
                have O2 : Hid (Held W (SHas W m b (fun A w G => Has W w G m A) T B) w9 wr (fun _ => False) Lr) := unhide HH
                clear RI HB HRM HL12 W12 TI2 LI HH
                generalize S.needTo l l.length = need at *
                generalize S.F.left = L0 at *
                go_upto_region 22 with fail
                clear hge hlt hi ei
                generalize (i : Int) = lasti at *
                generalize (l.length : Int) = lastl at *
                go_wp2_with fail
                go_loopw [16, 18, 19, 20] (fun fv q _ _ wr => ∃ i : Nat, i ≤ km ∧ q = .int .i64 i ∧ ∃ (fine : Bool) (T : Sto) (B : Mm), fv = .bool fine ∧ MInv T B i need L0 fine ∧ B.ok (160 + 8 * i) ∧ Held W (SHas W m b (fun A w G => Has W w G m A) T B) w9 wr (fun _ => False) Lr) (fun _ q _ _ _ => km - (intOf q).toNat)
                case atStart => exact ⟨0, by omega, rfl, fine, T, B, rfl, unhide MI, unhide HB2, unhide O2⟩
                case round =>
                  clear MI HB2 O2
                  obtain ⟨i, hi, rfl, fine, T, B, rfl, hr, hB, hh⟩ := hrel
                  have HH := hide hh
                  have MI := hide hr
                  have HB := hide hB
                  clear hh hr hB
                  by_cases hlt : i < km
                  · have hll : (i : Int) < (km : Int) := by omega
                    have MI2 := hide ((unhide MI).step (by omega))
                    have HB2 := hide (makeM_ok (S := T) (unhide HB) 1)
                    have CS := hide (make_any (unhide M) (unhide HH).st (unhide MI).ok (ok_mono (unhide HB) (by omega)) 1)
                    generalize T.makeS B 1 = T1 at *
                    generalize T.makeM B 1 = B1 at *
                    generalize T.makeE B 1 = E9 at *
                    generalize T.makeI B 1 = I9 at *
                    go_wp2_with fail
                    refine (unhide CS).mono ?_
                    rintro e wa ⟨rfl, h1, h2⟩
                    have HH2 := hide ((unhide HH).call (St' := SHas W m b (fun A w G => Has W w G m A) T1 B1) h1 h2)
                    clear h1 h2 CS HH
                    cases fine with
                    | false =>
                      have MI3 : Hid (MInv T1 B1 (i + 1) need L0 false) := unhide MI2
                      clear MI2
                      go_wp2_with fail
                      go_roundw
                      case rel => exact ⟨i + 1, by omega, by go_num, false, T1, B1, rfl, unhide MI3, ok_mono (unhide HB2) (by omega), unhide HH2⟩
                      case measure => simp [intOf]; omega
                    | true =>
                      by_cases hE : E9 = 0
                      · subst hE
                        have MI3 : Hid (MInv T1 B1 (i + 1) need L0 true) := unhide MI2
                        clear MI2
                        go_wp2_with fail
                        go_roundw
                        case rel => exact ⟨i + 1, by omega, by go_num, true, T1, B1, rfl, unhide MI3, ok_mono (unhide HB2) (by omega), unhide HH2⟩
                        case measure => simp [intOf]; omega
                      · have hE1 : (E9 == 0) = false := by simpa using hE
                        have MI3 : Hid (MInv T1 B1 (i + 1) need L0 false) := by
                          have := unhide MI2
                          rw [hE1] at this
                          exact this
                        clear MI2 hE
                        go_wp2_with fail
                        go_roundw
                        case rel => exact ⟨i + 1, by omega, by go_num, false, T1, B1, rfl, unhide MI3, ok_mono (unhide HB2) (by omega), unhide HH2⟩
                        case measure => simp [intOf]; omega
                  · have ei : i = km := by omega
                    have hfin := (unhide MI).fine_iff
                    rw [ei, ← unhide HRM2] at hfin
                    have hge : ¬ ((i : Int) < (km : Int)) := by omega
                    have HBW := hide ((unhide HH).st)
                    subst hfin
                    have BW : Hid (Below W.heap.size W wr) := ((SHas.stay (unhide M) b _ _).sz _ _ (unhide HBW)).below (Nat.le_refl _) (fun _ h => h.elim)
                    clear MI HRM2 HB HH ei hlt
                    cases fine with
                    | true =>
                      go_wp2_with fail
                      go_ret
                      exact ⟨rfl, unhide BW⟩
                    | false =>
                      go_wp2_with fail
                      go_ret
                      exact ⟨rfl, unhide BW⟩
          · go_upto_region 15 with fail
            clear HJ HF HV V2 V3
            generalize (j : Int) = last at *
            have CR := hide (room_any (unhide OH).st.rep (unhide TI2).ok a1 l cap1 (unhide LI _ (fun p hp => (unhide OH).at p.1 p.2 hp)) (by omega) (km : Int) (by omega))
            go_wp2_with fail
            refine (unhide CM _).mono ?_
            rintro e wq ⟨rfl, rfl⟩
            go_wp2_with fail
            refine (unhide CR).mono ?_
            rintro e w9 ⟨rfl, hb⟩
            have O1 := hide ((unhide OH).below (SHas.stay (unhide M) b _ _) hb)
            clear hb CR OH CM
            obtain ⟨rm, hrm⟩ : ∃ rm, rm = S.roomB l (km : Int) := ⟨_, rfl⟩
            rw [← hrm]
            have HRM : Hid (rm = S.roomB l (km : Int)) := hrm
            clear hrm
            obtain ⟨hA1, hA2, hA3⟩ := unhide HM
            have R0 := hide ((unhide TI2).rinv A hA1 hA2 l)
            have W12 := hide (fun k hk => (unhide TI2).wants k hk)
            clear hA1 hA2
            go_wp2_with fail
            go_loopw [16, 17] (fun fv q wr => ∃ i : Nat, i ≤ l.length ∧ q = .int .i64 i ∧ ∃ (fine : Bool) (T : Sto) (B : Mm), fv = .bool fine ∧ RInv S T B l i S.F.left fine ∧ B.ok (8 * i) ∧ Held W (SHas W m b (fun A w G => Has W w G m A) T B) w9 wr (fun _ => False) Lr) (fun _ q _ => l.length - (intOf q).toNat)
            case atStart => exact ⟨0, by omega, rfl, true, S, A, rfl, unhide R0, hA3, ⟨(unhide O1).1, (unhide O1).2.1, fun k hk => hk.elim⟩⟩
            case round =>
              clear R0 O1 HM
              obtain ⟨i, hi, rfl, fine, T, B, rfl, hr, hB, hh⟩ := hrel
              have HH := hide hh
              have RI := hide hr
              have HB := hide hB
              clear hh hr hB
              by_cases hlt : i < l.length
              · have hll : (i : Int) < (l.length : Int) := by omega
                cases fine with
                | true =>
                  obtain ⟨k, hk, hkl⟩ := unhide HL12 i hlt
                  have RI2 := hide ((unhide RI).step hlt hkl hk (unhide W12 k hk))
                  have HB2 := hide (setM_ok (S := T) (unhide HB) (k : Int) 0 1 ⟨by decide, by decide⟩)
                  have CS := hide (set_any (unhide M) (unhide HH).st (unhide RI).ok (ok_mono (unhide HB) (by omega)) (k : Int) 0 1 ⟨by decide, by decide⟩)
                  obtain ⟨x, off, rfl, hx⟩ : ∃ x off, a1 = some ⟨x, off, none⟩ ∧ ∀ i, i < l.length → wr.cell? ⟨x, off + i, none⟩ = some (.int .i64 (l.getD i 0)) := by
                    rcases unhide LI _ (fun p hp => (unhide HH).at p.1 p.2 hp) with h | h
                    · rw [h] at hlt; simp at hlt
                    · exact h
                  have cx := hx i hlt
                  rw [hkl] at cx
                  clear hx hkl
                  generalize T.setS B (k : Int) 0 1 = T1 at *
                  generalize T.setM B (k : Int) 0 1 = B1 at *
                  generalize T.setE B (k : Int) 0 1 = E9 at *
                  go_wp2_with fail
                  refine (unhide CS).mono ?_
                  rintro e wa ⟨rfl, h1, h2⟩
                  have HH2 := hide ((unhide HH).call (St' := SHas W m b (fun A w G => Has W w G m A) T1 B1) h1 h2)
                  clear h1 h2 CS HH cx
                  by_cases hE : E9 = 0
                  · subst hE
                    go_wp2_with fail
                    go_roundw
                    case rel => exact ⟨i + 1, by omega, by go_num, true, T1, B1, rfl, unhide RI2, ok_mono (unhide HB2) (by omega), unhide HH2⟩
                    case measure => simp [intOf]; omega
                  · have hE1 : (E9 == 0) = false := by simpa using hE
                    have RI3 : Hid (RInv S T1 B1 l (i + 1) S.F.left false) := by show RInv _ _ _ _ _ _ _; rw [← hE1]; exact unhide RI2
                    clear hE RI2
                    go_wp2_with fail
                    go_roundw
                    case rel => exact ⟨i + 1, by omega, by go_num, false, T1, B1, rfl, unhide RI3, ok_mono (unhide HB2) (by omega), unhide HH2⟩
                    case measure => simp [intOf]; omega
                | false =>
                  go_wp2_with fail
                  go_roundw
                  case rel => exact ⟨i + 1, by omega, by go_num, false, T, B, rfl, (unhide RI).skip, ok_mono (unhide HB) (by omega), unhide HH⟩
                  case measure => simp [intOf]; omega
              · have ei : i = l.length := by omega
                have MI : Hid (MInv T B 0 (S.needTo l l.length) S.F.left fine) := by
                  have := unhide RI
                  rw [ei] at this
                  exact this.makes
                have HB2 : Hid (B.ok 160) := ok_mono (unhide HB) (by omega)
                have HRM2 : Hid (rm = decide (0 ≤ (km : Int) ∧ (km : Int) ≤ (S.F.left : Int) - (S.needTo l l.length : Int))) := unhide HRM
                have hge : ¬ ((i : Int) < (l.length : Int)) := by omega
                have O2 : Hid (Held W (SHas W m b (fun A w G => Has W w G m A) T B) w9 wr (fun _ => False) Lr) := unhide HH
                clear RI HB HRM HL12 W12 TI2 LI HH
                generalize S.needTo l l.length = need at *
                generalize S.F.left = L0 at *
                go_upto_region 22 with fail
                clear hge hlt hi ei
                generalize (i : Int) = lasti at *
                generalize (l.length : Int) = lastl at *
                go_wp2_with fail
                go_loopw [16, 18, 19, 20] (fun fv q _ _ wr => ∃ i : Nat, i ≤ km ∧ q = .int .i64 i ∧ ∃ (fine : Bool) (T : Sto) (B : Mm), fv = .bool fine ∧ MInv T B i need L0 fine ∧ B.ok (160 + 8 * i) ∧ Held W (SHas W m b (fun A w G => Has W w G m A) T B) w9 wr (fun _ => False) Lr) (fun _ q _ _ _ => km - (intOf q).toNat)
                case atStart => exact ⟨0, by omega, rfl, fine, T, B, rfl, unhide MI, unhide HB2, unhide O2⟩
                case round =>
                  clear MI HB2 O2
                  obtain ⟨i, hi, rfl, fine, T, B, rfl, hr, hB, hh⟩ := hrel
                  have HH := hide hh
                  have MI := hide hr
                  have HB := hide hB
                  clear hh hr hB
                  by_cases hlt : i < km
                  · have hll : (i : Int) < (km : Int) := by omega
                    have MI2 := hide ((unhide MI).step (by omega))
                    have HB2 := hide (makeM_ok (S := T) (unhide HB) 1)
                    have CS := hide (make_any (unhide M) (unhide HH).st (unhide MI).ok (ok_mono (unhide HB) (by omega)) 1)
                    generalize T.makeS B 1 = T1 at *
                    generalize T.makeM B 1 = B1 at *
                    generalize T.makeE B 1 = E9 at *
                    generalize T.makeI B 1 = I9 at *
                    go_wp2_with fail
                    refine (unhide CS).mono ?_
                    rintro e wa ⟨rfl, h1, h2⟩
                    have HH2 := hide ((unhide HH).call (St' := SHas W m b (fun A w G => Has W w G m A) T1 B1) h1 h2)
                    clear h1 h2 CS HH
                    cases fine with
                    | false =>
                      have MI3 : Hid (MInv T1 B1 (i + 1) need L0 false) := unhide MI2
                      clear MI2
                      go_wp2_with fail
                      go_roundw
                      case rel => exact ⟨i + 1, by omega, by go_num, false, T1, B1, rfl, unhide MI3, ok_mono (unhide HB2) (by omega), unhide HH2⟩
                      case measure => simp [intOf]; omega
                    | true =>
                      by_cases hE : E9 = 0
                      · subst hE
                        have MI3 : Hid (MInv T1 B1 (i + 1) need L0 true) := unhide MI2
                        clear MI2
                        go_wp2_with fail
                        go_roundw
                        case rel => exact ⟨i + 1, by omega, by go_num, true, T1, B1, rfl, unhide MI3, ok_mono (unhide HB2) (by omega), unhide HH2⟩
                        case measure => simp [intOf]; omega
                      · have hE1 : (E9 == 0) = false := by simpa using hE
                        have MI3 : Hid (MInv T1 B1 (i + 1) need L0 false) := by
                          have := unhide MI2
                          rw [hE1] at this
                          exact this
                        clear MI2 hE
                        go_wp2_with fail
                        go_roundw
                        case rel => exact ⟨i + 1, by omega, by go_num, false, T1, B1, rfl, unhide MI3, ok_mono (unhide HB2) (by omega), unhide HH2⟩
                        case measure => simp [intOf]; omega
                  · have ei : i = km := by omega
                    have hfin := (unhide MI).fine_iff
                    rw [ei, ← unhide HRM2] at hfin
                    have hge : ¬ ((i : Int) < (km : Int)) := by omega
                    have HBW := hide ((unhide HH).st)
                    subst hfin
                    have BW : Hid (Below W.heap.size W wr) := ((SHas.stay (unhide M) b _ _).sz _ _ (unhide HBW)).below (Nat.le_refl _) (fun _ h => h.elim)
                    clear MI HRM2 HB HH ei hlt
                    cases fine with
                    | true =>
                      go_wp2_with fail
                      go_ret
                      exact ⟨rfl, unhide BW⟩
                    | false =>
                      go_wp2_with fail
                      go_ret
                      exact ⟨rfl, unhide BW⟩

set_option maxRecDepth 100000 in
theorem lifted (os : Os) (started : os.Started) (H : Type) (enc : TypeId × Value → H) :
    ReturnsInHanded {} Try.checked os 6 .any (Rows.objectsRoomSpec.pre6 enc Try.prog Try.f6 Rows.objectsRoomRow.domain false) (Rows.objectsRoomSpec.post enc Try.prog Try.f6 false true false false) := by
  refine law_frame (C := Try.checked) (ts := [3, 72, 3]) (tb := 4) (by kernel_rfl) started (by kernel_rfl) Try.func6 Try.params6 (by kernel_rfl) Try.underlying4 (by kernel_rfl) (by kernel_rfl) rfl ?_
    (ChangeSpec.witness6 (enc := enc) (C := Try.checked) false ⟨#[], #[.int .i64 0, .slice none 0 0, .int .i64 0], []⟩ 8 (by kernel_rfl) (by kernel_rfl) (by kernel_rfl) (by kernel_rfl)) ?_
  · intro ds hd
    match ds, hd with
    | [d0, d1, d2], _ => rfl
  · intro W base args ds p hval hA
    obtain ⟨v0, vs0, d0, ds0, p0, q0, hargs, rfl, rfl, h0, r0⟩ := trodAll_cons hA
    obtain ⟨v1, vs1, d1, ds1, p1, q1, rfl, rfl, rfl, h1, r1⟩ := trodAll_cons r0
    obtain ⟨v2, vs2, d2, ds2, p2, q2, rfl, rfl, rfl, h2, r2⟩ := trodAll_cons r1
    obtain ⟨rfl, rfl, rfl⟩ := trodAll_nil r2
    obtain rfl : args = #[v0, v1, v2] := by cases args; simp_all
    obtain ⟨z, rfl, rfl, rfl, wz⟩ := open_int Try.underlying3 (hval 0 3 v0 rfl rfl) h0
    obtain ⟨a, zs, n, cap, rfl, hV⟩ := open_i64sO (hval 1 72 v1 rfl rfl) h1
    obtain ⟨mo, rfl, rfl, rfl, wmo⟩ := open_int Try.underlying3 (hval 2 3 v2 rfl rfl) h2
    exact walk W z a zs n cap mo wz hV wmo

theorem over : Rows.objectsRoomRow.holds Try.pinned (OpenSpec.ofChange Rows.objectsRoomSpec) :=
  OpenClaim.holds_of_wide 6 Try.f6 rfl rfl rfl rfl rfl rfl rfl ⟨rfl, rfl, rfl, rfl, rfl⟩ rfl rfl rfl rfl rfl (by kernel_rfl) Try.func6 (by kernel_rfl)
    (of_decide_eq_true (by kernel_rfl)) (by unfold Func.isWrapper; first | (rw [if_pos (by decide +kernel)]; kernel_rfl) | (rw [if_neg (by decide +kernel)]; exact ⟨rfl, rfl⟩))
    (fun os started H enc _ => lifted os started H enc)

end Go.Proofs.Ytjmgmbigbkllgaa.objectsRoom
namespace Go.Proofs.Ytjmgmbigbkllgaa
theorem objectsRoom_holds : Rows.ObjectsRoomSaid := objectsRoom.over
end Go.Proofs.Ytjmgmbigbkllgaa
