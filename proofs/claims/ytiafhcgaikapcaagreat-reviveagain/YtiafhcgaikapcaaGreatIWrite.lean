
/-
  revive's write: the objects, a directory of them, a fence.
-/
import Derived.Test.YtiafhcgaikapcaaGreatIPut
import Derived.Test.YtiafhcgaikapcaaGreatPkXl
import Derived.Test.YtiafhcgaikapcaaGreatPkEn
import Derived.Test.YtiafhcgaikapcaaGreatPkShow
import Derived.Test.YtiafhcgaikapcaaGreatFMake
namespace Go.Proofs.YtiafhcgaikapcaaGreat
open Go.ChangeShapes Go.WideShapes Go.ChangeAt Go.RowKit Go.Joins
set_option maxRecDepth 10000
set_option linter.unusedVariables false
set_option linter.unusedSimpArgs false

theorem tabO_upTo (fr : Nat) (l : List Ob) : tabO fr l = upTo (entO fr l) l.length := rfl
theorem set_line (zs : List Int) (j : Nat) (k v z : Int) : (iv .i64 (put3 zs j ⟨k, v, 0⟩)).setIfInBounds (j * 3 + 2) (.int .i64 z) = iv .i64 (put3 zs j ⟨k, v, z⟩) := by
  rw [iv_set]
  congr 1
  unfold put3
  rw [show j * 3 + 2 = 3 * j + 2 by omega, List.set_set]
/-- The leaves' lines up to the k-th. -/
def lvsTo (at' : Nat) (k : Nat) (i : Nat) : Int := if i < k then ((at' + i : Nat) : Int) else 0
theorem lvsTo_all (at' : Nat) : tab7 (lvsTo at' 7) = tab7 (dirO at') := tab7_ext fun i hi => by
  unfold lvsTo dirO
  rw [if_pos hi, if_pos (by omega)]
theorem lvsTo_zero (at' : Nat) : tab7 (lvsTo at' 0) = zs7 := by
  unfold zs7 tab7 lvsTo
  simp
  rfl
theorem lvsTo_next (at' k : Nat) (hk : k < 7) : (iv .i64 (tab7 (lvsTo at' k))).setIfInBounds k (.int .i64 ((at' + k : Nat) : Int)) = iv .i64 (tab7 (lvsTo at' (k + 1))) := by
  rw [iv_set]
  congr 1
  refine list_ext0 (n := 7) (by rw [List.length_set, tab7_len]) (tab7_len _) fun i hi => ?_
  rw [tab7_get _ _ hi, List.getD_eq_getElem?_getD, List.getElem?_set]
  unfold lvsTo
  by_cases e : k = i
  · subst e; rw [if_pos rfl, if_pos (by rw [tab7_len]; exact hk), if_pos (Nat.lt_succ_self k)]; rfl
  · rw [if_neg e, ← List.getD_eq_getElem?_getD, tab7_get _ _ hi]
    show (if i < k then ((at' + i : Nat) : Int) else 0) = _
    by_cases h : i < k
    · rw [if_pos h, if_pos (by omega)]
    · rw [if_neg h, if_neg (by omega)]
theorem lnV_listG (l : List Int) (h : l.length = 8) : iv .u64 l = lnV (listF l) := by
  rw [lnV_iv]
  congr 1
  exact (list_ext0 (n := 8) h (rowOf_len _) fun m hm => by rw [rowOf_get _ m hm]; rfl)
theorem build_en2 (k v : Int) : Tryz.prog.built 41 [(0, .int .i64 k), (1, .int .i64 v)] = some (ev ⟨k, v, 0⟩) := by kernel_rfl
theorem zero_tabE : (Tryz.prog.info? 66).map (·.zero) = some (some (.agg (iv .i64 (zrow 49)))) := by kernel_rfl
theorem zero_7i : (Tryz.prog.info? 95).map (·.zero) = some (some (.agg (iv .i64 zs7))) := by kernel_rfl
theorem obsP_next (A : Mm) (fr : Nat) (l : List Ob) (j : Nat) (h : (obsP A fr l j).2 = 0) : obsP A fr l (j + 1) = if (l.getD j ob0).k = 0 then ((obsP A fr l j).1, 0) else putP ((fr + cntO (l.take j) : Nat) : Int) (l.getD j ob0).l (obsP A fr l j).1 := andP_ok h
theorem obsP_stuck {A : Mm} {fr : Nat} {l : List Ob} {j m : Nat} (hj : (obsP A fr l j).2 ≠ 0) (h : j ≤ m) : obsP A fr l m = obsP A fr l j := by
  have := seqP_stuck (P := obsP A fr l) (F := fun j B => if (l.getD j ob0).k = 0 then (B, 0) else putP ((fr + cntO (l.take j) : Nat) : Int) (l.getD j ob0).l B) (fun _ => rfl) hj (m - j)
  rwa [show j + (m - j) = m by omega] at this
theorem lfsP_stuck {A : Mm} {at' : Nat} {t : Nat → En} {j m : Nat} (hj : (lfsP A at' t j).2 ≠ 0) (h : j ≤ m) : lfsP A at' t m = lfsP A at' t j := by
  have := seqP_stuck (P := lfsP A at' t) (F := fun k => putP ((at' + k : Nat) : Int) (listF (leafKV (rowE 49 t) (k : Int)))) (fun _ => rfl) hj (m - j)
  rwa [show j + (m - j) = m by omega] at this
/-- Behind a write: what it returned; the root's line where nothing was wrong. -/
def WrPost (St : Mm → World → (Nat → Prop) → Prop) (w : World) (G : Nat → Prop) (R : Mm × Int) (rt : Int) (e : Ending) (w' : World) : Prop :=
  ∃ z, e = .returned (.tuple #[.int .i64 z, .int .i64 R.2]) ∧ (R.2 = 0 → z = rt) ∧ St R.1 w' G ∧ Same G w w'
theorem WrPost.of {W w w' : World} {St : Mm → World → (Nat → Prop) → Prop} {G : Nat → Prop} {L : List (Nat × Obj)} {B : Mm} {R : Mm × Int} {rt z E : Int} {gn gm m : Nat} {y : Int} (S : Stay W (St B)) (h : Held W (QSt W (St B) (PutSt gn gm m y)) w w' G L) (hR : R = (B, E)) (hz : E = 0 → z = rt) :
    WrPost St w G R rt (.returned (.tuple #[.int .i64 z, .int .i64 E])) w' := by
  subst hR
  exact ⟨z, rfl, hz, S.ls _ _ _ (QSt.drop S h.1) (fun k hk => Or.inl hk), h.2.2⟩

theorem Held.second {W w0 w w' : World} {St : World → (Nat → Prop) → Prop} {G : Nat → Prop} {ga gb : Nat} {oa ob ob' : Obj} (S : Stay W St) (h : Held W St w0 w G [(ga, oa), (gb, ob)]) (hne : ga ≠ gb) (hk : Keeps (· = gb) w w') (ho : w'.heap[gb]? = some ob') : Held W St w0 w' G [(gb, ob'), (ga, oa)] :=
  (h.turnOwn S gb ob ob' (by simp) hk ho).less S fun p hp => by
    rcases List.mem_cons.1 hp with rfl | hp
    · exact List.mem_cons_self
    · rw [List.mem_singleton] at hp
      subst hp
      exact List.mem_cons_of_mem _ (List.mem_filter.2 ⟨by simp, by simpa using hne⟩)
set_option maxHeartbeats 16000000 in
theorem write_any {W w : World} {m : Nat} {St : Mm → World → (Nat → Prop) → Prop} {A : Mm} {G : Nat → Prop} (M : MemI W m St) (h : St A w G) (hA : A.ok 370) (fr : Nat) (a : Option Addr) (cap : Nat) (l : List Ob) (hl49 : l.length ≤ 49) (hm : ∀ x ∈ l, obM x = true) (hin : ∀ x ∈ l, ObIn x) (hn : fr + cntO l + 8 ≤ 1024)
    (hob : ∀ w', Keeps (fun _ => False) W w' → Same G w w' → ObsAt w' a l) :
    Calls Tryz.prog 109 #[.pointer (some ⟨m, 0, none⟩), .int .i64 (fr : Int), .slice a l.length cap] w (WrPost St w G (wrtP A fr l) ((fr + cntO l + 7 : Nat) : Int)) := by
  have HM := hide M
  have ST : Hid (∀ A y gn gm, Stay W (QSt W (St A) (PutSt gn gm m y))) := fun A y gn gm => QSt.stay (M.stay A) (putSt_loc _ _ _ _)
  have HG : Hid (∀ j i, InU ((l.getD j ob0).l i)) := fun j i => by
    by_cases q : j < l.length
    · exact (hin _ (getD_mem q)).2.2 i
    · rw [List.getD_eq_getElem?_getD, List.getElem?_eq_none (by omega)]; show InU 0; exact ⟨by decide, by decide⟩
  have HO : Hid (∀ j, j ≤ l.length → (obsP A fr l j).1.ok 811) := fun j hj => ok_mono (obsP_ok hA fr l (unhide HG) j) (by omega)
  have HN := hide (obsP_next A fr l)
  have HS : Hid (∀ j, j ≤ l.length → (obsP A fr l j).2 ≠ 0 → wrtP A fr l = obsP A fr l j) := fun j hj h0 => by
    have e := obsP_stuck h0 hj
    unfold wrtP
    rw [e, andP_no h0, andP_no h0]; exact andP_no h0
  have HOB := hide hob
  have HIN := hide (fun j (hj : j < l.length) => (hin _ (getD_mem hj)).2.2)
  have HL : Hid (l.length ≤ 49) := hl49
  have HC := hide (fun j (hj : j < l.length) => cnt_next l j hj)
  have HCA : Hid (cntO (l.take l.length) = cntO l) := cnt_all l
  have HCL : Hid (∀ j, j ≤ l.length → cntO (l.take j) ≤ cntO l) := fun j hj => by rw [← cnt_all l]; exact cnt_mono l hj
  have HAT0 : Hid (fr + cntO l + 8 ≤ 1024) := hn
  have H0 : Hid (obsP A fr l 0 = (A, 0)) := rfl
  have HMAY := hide (tabO_may (fr := fr) hm (by omega))
  have HW0 : Hid ((obsP A fr l l.length).2 = 0 → wrtP A fr l = andP (andP (lfsP (obsP A fr l l.length).1 (fr + cntO l) (tabO fr l) 7) (putP ((fr + cntO l + 7 : Nat) : Int) (rootO (fr + cntO l)))) feP) := fun h0 => by
    unfold wrtP
    rw [andP_ok h0]
  obtain ⟨gm, hgm⟩ : ∃ gm, gm = w.heap.size := ⟨_, rfl⟩
  obtain ⟨gn, hgn⟩ : ∃ gn, gn = gm + 1 := ⟨_, rfl⟩
  have HQ := hide (QSt.begin (m := m) (M.stay A) h (fr : Int))
  rw [← hgm, ← hgn] at HQ
  clear h hA M hl49 hm hin hn hob HG
  obtain ⟨RR, hRR⟩ : ∃ RR, RR = wrtP A fr l := ⟨_, rfl⟩
  rw [← hRR] at HS HW0 ⊢
  clear hRR
  generalize obsP A fr l = P at *
  go_enter Tryz.func109, Tryz.ntmps109
  go_wp2_with fail
  refine (putter_any (fr : Int)).mono ?_
  rintro e w1 ⟨rfl, hw1⟩
  subst hw1
  go_upto_region 2 with fail
  rw [← hgm, ← hgn]
  clear hgm hgn
  generalize (w.alloc (.cells #[.pointer (some ⟨m, 0, none⟩)] 26)).alloc (.cells #[.int .i64 (fr : Int)] 3) = w1 at *
  have O0 : Hid (Held W (QSt W (St A) (PutSt gn gm m (fr : Int))) w w1 G []) := ⟨(unhide ST _ _ _ _).ls _ _ _ (unhide HQ).1 (by simp), by simp, (unhide HQ).2⟩
  have O1 := hide ((unhide O0).alloc (unhide ST _ _ _ _) (.cells (iv .i64 (zrow 49)) 66))
  have ZT := hide zero_tabE
  have HZR : Hid (zrow 49 = rowE 49 (upTo (entO fr l) 0)) := (upTo_zero 49 _).symm
  clear O0 HQ
  rw [unhide HZR] at O1 ZT
  go_upto_region 3 with (with_reducible refine wpList_allocZ (by with_unfolding_all rfl) 66 (by with_unfolding_all rfl) (iv .i64 (rowE 49 (upTo (entO fr l) 0))) (unhide ZT) ?_)
  obtain ⟨g9, hg9⟩ : ∃ g, g = w1.heap.size := ⟨_, rfl⟩
  rw [← hg9] at O1 ⊢
  clear hg9 ZT HZR
  generalize w1.alloc (.cells (iv .i64 (rowE 49 (upTo (entO fr l) 0))) 66) = w2 at *
  go_wp2_with fail
  go_loopw [7, 19] (fun e0 q wr => ∃ j : Nat, j ≤ l.length ∧ q = .int .i64 j ∧ e0 = .int .i64 0 ∧ (P j).2 = 0 ∧ Held W (QSt W (St (P j).1) (PutSt gn gm m ((fr + cntO (l.take j) : Nat) : Int))) w wr G [(g9, .cells (iv .i64 (rowE 49 (upTo (entO fr l) j))) 66)]) (fun _ q _ => l.length - (intOf q).toNat)
  case atStart => exact ⟨0, by omega, rfl, rfl, by rw [unhide H0], by rw [unhide H0]; exact unhide O1⟩
  case round =>
    clear O1
    obtain ⟨j, hj, rfl, rfl, hp, hh⟩ := hrel
    have HH := hide hh
    have HP := hide hp
    clear hh hp
    by_cases hlt : j < l.length
    · skip
      obtain ⟨ga, oa, rfl, hrg⟩ := (unhide HOB wr ((unhide ST _ _ _ _).sz _ _ (unhide HH).1) (unhide HH).2.2).range j hlt
      have hlt' : (j : Int) < (l.length : Int) := by omega
      have hj63 : (j : Int) < 49 := by have := unhide HL; omega
      have hj49 : Hid (j < 49) := by show j < 49; omega
      have hcn := unhide HC j hlt
      have hcl := unhide HCL (j + 1) (by omega)
      have HEN : Hid (put3 (rowE 49 (upTo (entO fr l) j)) j (entO fr l j) = rowE 49 (upTo (entO fr l) (j + 1))) := put3_upTo 49 _ j (unhide hj49)
      have HNX := hide (unhide HN j (unhide HP))
      have HFX : Hid (entO fr l j = ⟨(l.getD j ob0).k, (l.getD j ob0).v, if (l.getD j ob0).k = 0 then 0 else ((fr + cntO (l.take j) : Nat) : Int)⟩) := rfl
      have HXL := hide (unhide HIN j hlt)
      obtain ⟨x, hx⟩ : ∃ x, x = l.getD j ob0 := ⟨_, rfl⟩
      rw [← hx] at hrg hcn HNX HFX HXL
      rw [unhide HFX] at HEN
      clear hx HFX
      have RG := hide hrg
      have HCN := hide hcn
      have HCB : Hid (fr + cntO (l.take (j + 1)) + 8 ≤ 1024) := by show _ ≤ _; have := unhide HAT0; omega
      clear hrg hcn hcl
      have s10 := s10_obC x
      have s10v : (Tryz.prog.info? 88).map (·.size) = some (obV x.k x.v x.l).size := by rw [obV_size]; kernel_rfl
      have ZL := hide zero_ob
      have X10 := hide (obV_one x.k x.v x.l)
      have SZ : Hid ((obV 0 0 fun _ => 0).size = (obV x.k x.v x.l).size) := by show _ = _; rw [obV_size, obV_size]
      have EC : Hid ((obC x).toArray = obV x.k x.v x.l) := by show _ = _; unfold obC; exact Array.toArray_toList
      generalize (obV 0 0 fun _ => 0) = ZV at *
      go_upto_region 6 with (first | (with_reducible refine wpList_load_mid (by with_unfolding_all rfl) 88 _ (by with_unfolding_all rfl) ga (oa + j * 10) (by with_unfolding_all rfl) (obC x) _ (unhide RG) Tryz.underlying88 (by with_unfolding_all rfl) s10 ?_; rw [unhide EC]) | (with_reducible refine wpList_allocZ (by with_unfolding_all rfl) 88 (by with_unfolding_all rfl) ZV (unhide ZL) ?_) | (with_reducible refine wpList_store_row (by with_unfolding_all rfl) 88 _ _ (by with_unfolding_all rfl) wr.heap.size (obV x.k x.v x.l) (by with_unfolding_all rfl) (by with_unfolding_all rfl) 88 ZV (heap_new wr _) s10v (unhide SZ) (unhide X10) ?_; rw [setRow_alloc]))
      have O2 := hide ((unhide HH).alloc (unhide ST _ _ _ _) (.cells (obV x.k x.v x.l) 88))
      have HNE : Hid (wr.heap.size ≠ g9) := fun e => (unhide HH).fresh (g9, _) List.mem_cons_self e.symm
      obtain ⟨g11, hg⟩ : ∃ g, g = wr.heap.size := ⟨_, rfl⟩
      rw [← hg] at O2 HNE ⊢
      clear RG s10 s10v ZL X10 SZ EC HH hg
      generalize wr.alloc (.cells (obV x.k x.v x.l) 88) = w4 at *
      have c0 : w4.cell? ⟨g11, 0, none⟩ = some (.int .i64 x.k) := by rw [cell_of_block ((unhide O2).at g11 (.cells (obV x.k x.v x.l) 88) (by simp))]; rfl
      have c1 : w4.cell? ⟨g11, 1, none⟩ = some (.int .i64 x.v) := by rw [cell_of_block ((unhide O2).at g11 (.cells (obV x.k x.v x.l) 88) (by simp))]; rfl
      have HTH := hide (there_en (rowE 49 (upTo (entO fr l) j)) ((unhide O2).at g9 (.cells (iv .i64 (rowE 49 (upTo (entO fr l) j))) 66) (by simp)) j (by rw [rowE_len]; have := unhide hj49; omega))
      have BE := hide (build_en2 x.k x.v)
      have O3 := hide ((unhide O2).second (unhide ST _ _ _ _) (unhide HNE) (keeps_put3 w4 g9 (j * 3) ⟨x.k, x.v, 0⟩) (block_put3 _ ((unhide O2).at g9 (.cells (iv .i64 (rowE 49 (upTo (entO fr l) j))) 66) (by simp)) j ⟨x.k, x.v, 0⟩))
      go_upto_region 7 with (first | (with_reducible refine wpList_build01 (by with_unfolding_all rfl) 41 _ _ (by with_unfolding_all rfl) (.int .i64 x.k) (.int .i64 x.v) (by with_unfolding_all rfl) (by with_unfolding_all rfl) _ (unhide BE) ?_) | (with_reducible refine wpList_store_en (by with_unfolding_all rfl) _ _ (by with_unfolding_all rfl) g9 (j * 3) ⟨x.k, x.v, 0⟩ (by with_unfolding_all rfl) (by with_unfolding_all rfl) (unhide HTH) ?_))
      clear O2 c0 c1 HTH BE
      generalize w4.setCells g9 (j * 3) (ev ⟨x.k, x.v, 0⟩).toList = w5 at *
      have c0 : w5.cell? ⟨g11, 0, none⟩ = some (.int .i64 x.k) := by rw [cell_of_block ((unhide O3).at g11 (.cells (obV x.k x.v x.l) 88) (by simp))]; rfl
      by_cases hk : x.k = 0
      · have hkb : (x.k == 0) = true := by simpa using hk
        have HNX2 : Hid (P (j + 1) = ((P j).1, 0)) := (unhide HNX).trans (if_pos hk)
        have HCN2 : Hid (cntO (l.take (j + 1)) = cntO (l.take j)) := (unhide HCN).trans (by rw [if_pos hk]; rfl)
        rw [if_pos hk] at HEN
        rw [unhide HEN] at O3
        clear hk HNX HCN
        go_wp2_with fail
        go_roundw
        case rel => exact ⟨j + 1, by omega, by go_num, rfl, by rw [unhide HNX2], by rw [unhide HNX2, unhide HCN2]; exact (unhide O3).less (unhide ST _ _ _ _) (by simp)⟩
        case measure => simp [intOf]; omega
      · have hkb : (x.k == 0) = false := by simpa using hk
        have HNX2 : Hid (P (j + 1) = putP ((fr + cntO (l.take j) : Nat) : Int) x.l (P j).1) := (unhide HNX).trans (if_neg hk)
        have HCN2 : Hid (cntO (l.take (j + 1)) = cntO (l.take j) + 1) := (unhide HCN).trans (by rw [if_neg hk])
        rw [if_neg hk] at HEN
        have HEN2 : Hid ((iv .i64 (put3 (rowE 49 (upTo (entO fr l) j)) j ⟨x.k, x.v, 0⟩)).setIfInBounds (j * 3 + 2) (.int .i64 ((fr + cntO (l.take j) : Nat) : Int)) = iv .i64 (rowE 49 (upTo (entO fr l) (j + 1)))) := (set_line _ _ _ _ _).trans (by rw [unhide HEN])
        have hz := unhide HCB
        rw [unhide HCN2] at hz
        have CP := hide (fun (w' : World) (G' : Nat → Prop) (h' : QSt W (St (P j).1) (PutSt gn gm m ((fr + cntO (l.take j) : Nat) : Int)) w' G') => put_any (unhide HM) ((fr + cntO (l.take j) : Nat) : Int) (by omega) h' (ok_mono (unhide HO j (by omega)) (by omega)) x.l (unhide HXL))
        rw [← unhide HNX2] at CP
        have HZ1 : Hid (((fr + cntO (l.take j) : Nat) : Int) + 1 = ((fr + cntO (l.take (j + 1)) : Nat) : Int)) := by show _ = _; rw [unhide HCN2]; omega
        have RL := hide (obC_range (x := x) ((unhide O3).at g11 (.cells (obV x.k x.v x.l) 88) (by simp)))
        have hl8 : (lnV x.l).toList.toArray = lnV x.l := Array.toArray_toList
        have s8 : (Tryz.prog.info? 83).map (·.size) = some (lnV x.l).toList.length := by rw [Array.length_toList]; exact s8_ln x.l
        have HNE2 : Hid (∀ p ∈ [(g11, Obj.cells (obV x.k x.v x.l) 88 (0, 0))], p.1 ≠ g9) := fun p hp => by rw [List.mem_singleton] at hp; subst hp; exact unhide HNE
        clear hk HNX HCN HCN2 hz HEN
        go_wp2_with (with_reducible refine wpList_load_mid (by with_unfolding_all rfl) 83 _ (by with_unfolding_all rfl) g11 2 (by with_unfolding_all rfl) (lnV x.l).toList _ (unhide RL) Tryz.underlying83 (by with_unfolding_all rfl) s8 ?_; rw [hl8])
        refine (unhide CP _ _ (unhide O3).st).mono ?_
        rintro e w6 ⟨rfl, h1, h2⟩
        have O4 := hide ((unhide O3).call (St' := QSt W (St (P (j + 1)).1) (PutSt gn gm m (((fr + cntO (l.take j) : Nat) : Int) + 1))) h1 h2)
        clear h1 h2 O3 CP RL c0
        have c92 : w6.cell? ⟨g9, j * 3 + 2, none⟩ = some (.int .i64 ((put3 (rowE 49 (upTo (entO fr l) j)) j ⟨x.k, x.v, 0⟩).getD (j * 3 + 2) 0)) := by rw [cell_of_block ((unhide O4).at g9 (.cells (iv .i64 (put3 (rowE 49 (upTo (entO fr l) j)) j ⟨x.k, x.v, 0⟩)) 66) (by simp)), iv_get _ _ _ (by rw [put3_len, rowE_len]; have := unhide hj49; omega)]
        have f92 : w6.frozen? ⟨g9, j * 3 + 2, none⟩ = false := unfrozen_of_block ((unhide O4).at g9 (.cells (iv .i64 (put3 (rowE 49 (upTo (entO fr l) j)) j ⟨x.k, x.v, 0⟩)) 66) (by simp)) _
        have O5 := hide ((unhide O4).cellHd (unhide ST _ _ _ _) (unhide HNE2) (j * 3 + 2) (.int .i64 ((fr + cntO (l.take j) : Nat) : Int)))
        rw [unhide HEN2] at O5
        clear O4 HEN2
        generalize (put3 (rowE 49 (upTo (entO fr l) j)) j ⟨x.k, x.v, 0⟩).getD (j * 3 + 2) 0 = old at *
        rw [unhide HZ1] at O5
        by_cases h0 : (P (j + 1)).2 = 0
        · have HP1 := hide h0
          rw [h0]
          clear h0
          go_wp2_with fail
          go_roundw
          case rel => exact ⟨j + 1, by omega, by go_num, rfl, unhide HP1, (unhide O5).less (unhide ST _ _ _ _) (by simp)⟩
          case measure => simp [intOf]; omega
        · have hb1 : ((P (j + 1)).2 == 0) = false := by simpa using h0
          have hb2 : ((P (j + 1)).2 != 0) = true := by simpa using h0
          have ER : Hid (RR = ((P (j + 1)).1, (P (j + 1)).2)) := unhide HS (j + 1) (by omega) h0
          have HNZ : Hid ((P (j + 1)).2 = 0 → (0 : Int) = ((fr + cntO l + 7 : Nat) : Int)) := fun q => absurd q h0
          clear h0
          generalize (P (j + 1)).1 = B1 at *
          generalize (P (j + 1)).2 = X1 at *
          go_wp2_with fail
          go_ret2
          exact WrPost.of ((unhide HM).stay _) (unhide O5) (unhide ER) (unhide HNZ)
    · obtain rfl : j = l.length := by omega
      rw [unhide HCA] at HH
      have ZL := hide zero_7i
      have HNE : Hid (wr.heap.size ≠ g9) := fun e => (unhide HH).fresh (g9, _) List.mem_cons_self e.symm
      have O4 := hide ((unhide HH).alloc (unhide ST _ _ _ _) (.cells (iv .i64 zs7) 95))
      have HOL := hide (unhide HO l.length (Nat.le_refl _))
      have HWR := hide (unhide HW0 (unhide HP))
      have HRT : Hid (((fr + cntO l + 7 : Nat) : Int) = ((fr + cntO l + 7 : Nat) : Int)) := rfl
      have HUP : Hid (upTo (entO fr l) l.length = tabO fr l) := rfl
      rw [unhide HUP] at O4
      go_upto_region 13 with (with_reducible refine wpList_allocZ (by with_unfolding_all rfl) 95 (by with_unfolding_all rfl) (iv .i64 zs7) (unhide ZL) ?_)
      obtain ⟨g12, hg⟩ : ∃ g, g = wr.heap.size := ⟨_, rfl⟩
      rw [← hg] at O4 HNE ⊢
      clear ZL HH hg HN HS HW0 HO HP HUP H0
      generalize wr.alloc (.cells (iv .i64 zs7) 95) = w8 at *
      have HAT1 := HAT0
      obtain ⟨at', hat'⟩ : ∃ x, x = fr + cntO l := ⟨_, rfl⟩
      have HAT : Hid (at' + 8 ≤ 1024) := by rw [hat']; exact unhide HAT0
      have HRT2 : Hid (((at' + 7 : Nat) : Int) = ((fr + cntO l + 7 : Nat) : Int)) := by rw [hat']; exact unhide HRT
      rw [← hat'] at O4 HWR
      have HRE : Hid (rootE (tab7 (dirO at')) = 0) := by
        show _ = _
        unfold rootE
        rw [if_pos ((mayT_iff _).2 fun i hi => by rw [tab7_get _ _ hi, dirO_at _ _ (by omega)]; have := unhide HAT; omega)]
      clear HRT HAT0 HAT1 hat'
      obtain ⟨T9, hT9⟩ : ∃ T, T = tabO fr l := ⟨_, rfl⟩
      rw [← hT9] at O4 HWR HMAY
      clear hT9
      have s147 : (Tryz.prog.info? 66).map (·.size) = some (iv .i64 (rowE 49 T9)).size := s147_of _ (rowE_len 49 _)
      have CL : Hid (∀ k : Nat, k < 7 → ∀ w : World, Calls Tryz.prog 163 #[.agg (iv .i64 (rowE 49 T9)), .int .i64 (k : Int)] w fun e w' => e = .returned (.tuple #[.agg (iv .u64 (leafKV (rowE 49 T9) (k : Int))), .int .i64 0]) ∧ Below w.heap.size w w') := fun k hk w => by
        have e0 : leafKE (rowE 49 T9) (k : Int) = 0 := by
          unfold leafKE leafE
          rw [if_pos ⟨by omega, by omega⟩, Int.toNat_natCast, if_pos ((mayX_iff _).2 fun i hi => by rw [partT_at _ _ _ hi, rowE_at 49 _ _ (by omega)]; exact unhide HMAY _)]
        have := leaf_any (rowE 49 T9) (rowE_len 49 _) (k : Int) w
        rw [e0] at this
        exact this
      generalize (P l.length).1 = PB at *
      have HLO : Hid (∀ k, k ≤ 7 → (lfsP PB at' T9 k).1.ok 900) := fun k hk => ok_mono (lfsP_ok (unhide HOL) at' T9 k) (by omega)
      have HL0 : Hid (lfsP PB at' T9 0 = (PB, 0)) := rfl
      have HLN : Hid (∀ k, (lfsP PB at' T9 k).2 = 0 → lfsP PB at' T9 (k + 1) = putP ((at' + k : Nat) : Int) (listF (leafKV (rowE 49 T9) (k : Int))) (lfsP PB at' T9 k).1) := fun k hk => andP_ok hk
      have HLS : Hid (∀ k, k ≤ 7 → (lfsP PB at' T9 k).2 ≠ 0 → RR = lfsP PB at' T9 k) := fun k hk h0 => by
        have e := lfsP_stuck h0 hk
        rw [unhide HWR, e, andP_no h0]; exact andP_no h0
      have HRR : Hid ((lfsP PB at' T9 7).2 = 0 → RR = andP (putP ((at' + 7 : Nat) : Int) (listF (rootV (tab7 (dirO at')))) (lfsP PB at' T9 7).1) feP) := fun h0 => by
        rw [unhide HWR, andP_ok h0]; rfl
      clear HWR HOL
      generalize lfsP PB at' T9 = L0 at *
      generalize hTV : iv .i64 (rowE 49 T9) = TV at *
      clear hTV
      have HRT := HRT2
      go_wp2_with fail
      go_loopw [7, 48] (fun ev0 q wr => ∃ k : Nat, k ≤ 7 ∧ q = .int .i64 k ∧ ev0 = .int .i64 0 ∧ (L0 k).2 = 0 ∧ Held W (QSt W (St (L0 k).1) (PutSt gn gm m ((at' + k : Nat) : Int))) w wr G [(g12, .cells (iv .i64 (tab7 (lvsTo at' k))) 95), (g9, .cells TV 66)]) (fun _ q _ => 7 - (intOf q).toNat)
      case atStart => exact ⟨0, by omega, rfl, rfl, by rw [unhide HL0], by rw [unhide HL0, lvsTo_zero]; exact unhide O4⟩
      case round =>
        clear O4
        obtain ⟨k, hk, rfl, rfl, hp, hh⟩ := hrel
        have HH := hide hh
        have HP := hide hp
        clear hh hp
        have hat := unhide HAT
        by_cases hlt : k < 7
        · have hlt' : (k : Int) < 7 := by omega
          have HLT := hide hlt
          have K9 := hide ((unhide HH).at g9 (.cells TV 66) (by simp))
          have CLF := hide (unhide CL k hlt)
          have E1 := hide (unhide HLN k (unhide HP))
          have hwf := hide (listF_inU (zleafKV_wf (rowE 49 T9) (k : Int)))
          have ELN := hide (lnV_listG (leafKV (rowE 49 T9) (k : Int)) (leafKV_len _ _))
          have CP := hide (fun (w' : World) (G' : Nat → Prop) (h' : QSt W (St (L0 k).1) (PutSt gn gm m ((at' + k : Nat) : Int)) w' G') => put_any (unhide HM) ((at' + k : Nat) : Int) (by omega) h' (unhide HLO k hk) (listF (leafKV (rowE 49 T9) (k : Int))) (unhide hwf))
          rw [← unhide ELN] at CP
          rw [← unhide E1] at CP
          clear ELN hwf
          generalize iv .u64 (leafKV (rowE 49 T9) (k : Int)) = LV at *
          go_wp2_with (with_reducible refine wpList_load_row (by with_unfolding_all rfl) 66 _ (by with_unfolding_all rfl) g9 (by with_unfolding_all rfl) _ _ _ _ (unhide K9) Tryz.underlying66 (by with_unfolding_all rfl) s147 ?_)
          refine (unhide CLF _).mono ?_
          rintro e w1 ⟨rfl, hb⟩
          have O5 := hide ((unhide HH).below (unhide ST _ _ _ _) hb)
          clear hb HH K9 CLF
          go_wp2_with fail
          refine (unhide CP _ _ (unhide O5).st).mono ?_
          rintro e w2 ⟨rfl, h1, h2⟩
          have O6 := hide ((unhide O5).call (St' := QSt W (St (L0 (k + 1)).1) (PutSt gn gm m (((at' + k : Nat) : Int) + 1))) h1 h2)
          have c12 : w2.cell? ⟨g12, k, none⟩ = some (.int .i64 ((tab7 (lvsTo at' k)).getD k 0)) := by rw [cell_of_block ((unhide O6).at g12 (.cells (iv .i64 (tab7 (lvsTo at' k))) 95) (by simp)), iv_get _ _ _ (by rw [tab7_len]; exact unhide HLT)]
          have f12 : w2.frozen? ⟨g12, k, none⟩ = false := unfrozen_of_block ((unhide O6).at g12 (.cells (iv .i64 (tab7 (lvsTo at' k))) 95) (by simp)) k
          have HSET := hide (lvsTo_next at' k hlt)
          have O7 := hide ((unhide O6).cellHd (unhide ST _ _ _ _) (by simp; exact fun e => unhide HNE e.symm) k (.int .i64 ((at' + k : Nat) : Int)))
          rw [unhide HSET] at O7
          clear h1 h2 O5 O6 CP HSET
          generalize (tab7 (lvsTo at' k)).getD k 0 = old at *
          have HZ1 : Hid (((at' + k : Nat) : Int) + 1 = ((at' + (k + 1) : Nat) : Int)) := by show _ = _; omega
          rw [unhide HZ1] at O7
          by_cases h0 : (L0 (k + 1)).2 = 0
          · have HP1 := hide h0
            rw [h0]
            clear h0
            go_wp2_with fail
            go_roundw
            case rel => exact ⟨k + 1, by omega, by go_num, rfl, unhide HP1, unhide O7⟩
            case measure => simp [intOf]; omega
          · have hb1 : ((L0 (k + 1)).2 == 0) = false := by simpa using h0
            have hb2 : ((L0 (k + 1)).2 != 0) = true := by simpa using h0
            have ER := hide (unhide HLS (k + 1) (by omega) h0)
            have HR2 : Hid (RR = ((L0 (k + 1)).1, (L0 (k + 1)).2)) := (unhide ER).trans rfl
            have HNZ : Hid ((L0 (k + 1)).2 = 0 → (0 : Int) = ((fr + cntO l + 7 : Nat) : Int)) := fun q => absurd q h0
            clear h0 ER
            generalize (L0 (k + 1)).1 = B1 at *
            generalize (L0 (k + 1)).2 = X1 at *
            go_wp2_with fail
            go_ret2
            exact WrPost.of ((unhide HM).stay _) (unhide O7) (unhide HR2) (unhide HNZ)
        · obtain rfl : k = 7 := by omega
          have HLA := hide (lvsTo_all at')
          have K12 := hide ((unhide HH).at g12 (.cells (iv .i64 (tab7 (lvsTo at' 7))) 95) (by simp))
          rw [unhide HLA] at K12
          have s7 := s7_of (tab7 (dirO at')) (tab7_len _)
          have CR := hide (root_any (tab7 (dirO at')) (tab7_len _))
          rw [unhide HRE] at CR
          have ER1 := hide (unhide HRR (unhide HP))
          have hwf := hide (listF_inU (rootV_wf (tab7 (dirO at'))))
          have ELN := hide (lnV_listG (rootV (tab7 (dirO at'))) (rootV_len _))
          have CP := hide (fun (w' : World) (G' : Nat → Prop) (h' : QSt W (St (L0 7).1) (PutSt gn gm m ((at' + 7 : Nat) : Int)) w' G') => put_any (unhide HM) ((at' + 7 : Nat) : Int) (by omega) h' (unhide HLO 7 (by omega)) (listF (rootV (tab7 (dirO at')))) (unhide hwf))
          rw [← unhide ELN] at CP
          have HPO : Hid ((putP ((at' + 7 : Nat) : Int) (listF (rootV (tab7 (dirO at')))) (L0 7).1).1.ok 1000) := ok_mono (putP_ok (unhide HLO 7 (by omega)) _ _ (unhide hwf)) (by omega)
          have EP : Hid (RR = andP (putP ((at' + 7 : Nat) : Int) (listF (rootV (tab7 (dirO at')))) (L0 7).1) feP) := unhide ER1
          clear ELN hwf ER1
          generalize putP ((at' + 7 : Nat) : Int) (listF (rootV (tab7 (dirO at')))) (L0 7).1 = PR at *
          generalize iv .u64 (rootV (tab7 (dirO at'))) = LV at *
          generalize iv .i64 (tab7 (dirO at')) = DV at *
          go_wp2_with (with_reducible refine wpList_load_row (by with_unfolding_all rfl) 95 _ (by with_unfolding_all rfl) g12 (by with_unfolding_all rfl) _ _ _ _ (unhide K12) Tryz.underlying95 (by with_unfolding_all rfl) s7 ?_)
          refine (unhide CR _).mono ?_
          rintro e w1 ⟨rfl, hb⟩
          have O5 := hide ((unhide HH).below (unhide ST _ _ _ _) hb)
          clear hb HH K12 CR
          go_wp2_with fail
          refine (unhide CP _ _ (unhide O5).st).mono ?_
          rintro e w2 ⟨rfl, h1, h2⟩
          have O6 := hide ((unhide O5).call (St' := QSt W (St PR.1) (PutSt gn gm m (((at' + 7 : Nat) : Int) + 1))) h1 h2)
          clear h1 h2 O5 CP
          by_cases h0 : PR.2 = 0
          · have ER2 : Hid (RR = (PR.1.fenceZ 0, PR.1.fenceE 0)) := (unhide EP).trans (andP_ok h0)
            have CF := hide ((unhide O6).st.via (putSt_loc _ _ _ _) fun G' h' => (unhide HM).fence _ _ _ h' (unhide HPO) 0)
            rw [h0]
            clear h0 EP HPO
            generalize PR.1.fenceZ 0 = A2 at *
            generalize PR.1.fenceE 0 = X2 at *
            go_wp2_with fail
            refine (unhide CF).mono ?_
            rintro e w3 ⟨rfl, h1, h2⟩
            have O7 := hide ((unhide O6).call (St' := QSt W (St A2) (PutSt gn gm m (((at' + 7 : Nat) : Int) + 1))) h1 h2)
            clear h1 h2 O6 CF
            go_wp2_with fail
            go_ret2
            exact WrPost.of ((unhide HM).stay _) (unhide O7) (unhide ER2) (fun _ => unhide HRT)
          · have hb1 : (PR.2 == 0) = false := by simpa using h0
            have hb2 : (PR.2 != 0) = true := by simpa using h0
            have ER2 : Hid (RR = (PR.1, PR.2)) := (unhide EP).trans (andP_no h0)
            have HNZ : Hid (PR.2 = 0 → (0 : Int) = ((fr + cntO l + 7 : Nat) : Int)) := fun q => absurd q h0
            clear h0 EP HPO
            generalize PR.1 = B1 at *
            generalize PR.2 = X1 at *
            go_wp2_with fail
            go_ret2
            exact WrPost.of ((unhide HM).stay _) (unhide O6) (unhide ER2) (unhide HNZ)

end Go.Proofs.YtiafhcgaikapcaaGreat
