
/-
  Room: whether there are frames for a word of each of these objects, and so many more; nothing turns.
-/
import Derived.Test.YtinhnnnehhlceaaGreatPkSto
import Derived.Test.YtinhnnnehhlceaaGreatPkShow
namespace Go.Proofs.YtinhnnnehhlceaaGreat
open Go.ChangeShapes Go.WideShapes Go.ChangeAt Go.RowKit Go.Joins
set_option maxRecDepth 10000
set_option linter.unusedVariables false
set_option linter.unusedSimpArgs false

/-- The objects that are counted, of the first j. -/
def cntd (S : Sto) (l : List Int) (j : Nat) : Nat → Bool := fun k => S.wants (k : Int) && (l.take j).contains (k : Int)
def rowC (c : Nat → Bool) : Array Value := tab 49 fun k => .bool (c k)
theorem rowC_get (c : Nat → Bool) (k : Nat) (h : k < 49) : (rowC c)[k]? = some (.bool (c k)) := tab_get _ _ _ h
theorem rowC_put (c d : Nat → Bool) (k : Nat) (h : ∀ i, d i = if i = k then true else c i) : (rowC c).setIfInBounds k (.bool true) = rowC d := by
  unfold rowC
  rw [tab_set]
  refine tab_ext fun i _ => ?_
  rw [h]
  by_cases e : i = k
  · subst e; rw [upd_same, if_pos rfl]
  · rw [upd_other _ _ _ _ e, if_neg e]
theorem take_contains (l : List Int) (j : Nat) (hj : j < l.length) (k : Int) : (l.take (j + 1)).contains k = ((l.take j).contains k || (l.getD j 0 == k)) := by
  have e : l.getD j 0 = l[j] := by rw [List.getD_eq_getElem?_getD, List.getElem?_eq_getElem hj]; rfl
  rw [List.take_succ_eq_append_getElem hj, e, Bool.eq_iff_iff]
  rw [Bool.or_eq_true, List.contains_iff_mem, List.contains_iff_mem, List.mem_append, List.mem_singleton, beq_iff_eq]
  exact ⟨fun q => q.imp id Eq.symm, fun q => q.imp id Eq.symm⟩
theorem cntd_zero (S : Sto) (l : List Int) : cntd S l 0 = fun _ => false := by
  funext k; unfold cntd; simp
theorem cntd_skip (S : Sto) (l : List Int) (j : Nat) (hj : j < l.length) (h : S.wants (l.getD j 0) = false) : cntd S l (j + 1) = cntd S l j ∧ S.needTo l (j + 1) = S.needTo l j := by
  constructor
  · funext k
    unfold cntd
    rw [take_contains l j hj]
    by_cases e : l.getD j 0 = (k : Int)
    · rw [← e, h]; simp
    · rw [show (l.getD j 0 == (k : Int)) = false by simpa using e, Bool.or_false]
  · rw [needTo_next, h]; simp
theorem cntd_twice (S : Sto) (l : List Int) (j : Nat) (hj : j < l.length) (k : Nat) (hk : l.getD j 0 = (k : Int)) (h : cntd S l j k = true) : cntd S l (j + 1) = cntd S l j ∧ S.needTo l (j + 1) = S.needTo l j := by
  unfold cntd at h
  rw [Bool.and_eq_true] at h
  constructor
  · funext i
    unfold cntd
    rw [take_contains l j hj]
    by_cases e : l.getD j 0 = (i : Int)
    · have : (l.take j).contains (i : Int) = true := by rw [← e, hk]; exact h.2
      rw [this]; simp
    · rw [show (l.getD j 0 == (i : Int)) = false by simpa using e, Bool.or_false]
  · rw [needTo_next, hk, h.2]; simp
theorem cntd_new (S : Sto) (l : List Int) (j : Nat) (hj : j < l.length) (k : Nat) (hk : l.getD j 0 = (k : Int)) (h : cntd S l j k = false) (hw : S.wants (k : Int) = true) : (∀ i, cntd S l (j + 1) i = if i = k then true else cntd S l j i) ∧ S.needTo l (j + 1) = S.needTo l j + 1 := by
  unfold cntd at h
  rw [hw, Bool.true_and] at h
  constructor
  · intro i
    unfold cntd
    rw [take_contains l j hj, hk]
    by_cases e : i = k
    · subst e; rw [if_pos rfl, hw]; simp
    · rw [if_neg e, show ((k : Int) == (i : Int)) = false by simp; omega, Bool.or_false]
  · rw [needTo_next, hk, hw, h]; simp
theorem zero_rowC : (Tryz.prog.info? 208).map (·.zero) = some (some (.agg (rowC fun _ => false))) := by kernel_rfl

/-- A row of integers that lies there. -/
def LiesI (w : World) (a : Option Addr) (l : List Int) : Prop := l = [] ∨ ∃ x off, a = some ⟨x, off, none⟩ ∧ ∀ i, i < l.length → w.cell? ⟨x, off + i, none⟩ = some (.int .i64 (l.getD i 0))
theorem own_drop {W w : World} {p : Nat × Obj} {L : List (Nat × Obj)} (h : Own W w (p :: L)) : Own W w L := h.less fun q hq => List.mem_cons_of_mem _ hq
theorem wants_no (S : Sto) (z : Int) (h : S.findE z ≠ 0) : S.wants z = false := by unfold Sto.wants; rw [decide_eq_false h]; rfl
theorem wants_own (S : Sto) (z : Int) (h : S.own (S.line z) = true) : S.wants z = false := by unfold Sto.wants; rw [h]; simp
theorem wants_yes (S : Sto) (z : Int) (h : S.findE z = 0) (ho : S.own (S.line z) = false) : S.wants z = true := by unfold Sto.wants; rw [decide_eq_true h, ho]; rfl

set_option maxHeartbeats 8000000 in
theorem room_any {m : Nat} {S : Sto} {w : World} {b : Nat} (h : SRep m S w b) (hS : S.ok) (a : Option Addr) (l : List Int) (cap : Nat) (hl : LiesI w a l) (hn : l.length ≤ 9223372036854775807) (more : Int) (hm : more ≤ 9223372036854775807) :
    Calls Tryz.prog 109 #[.pointer (some ⟨b, 0, none⟩), .slice a l.length cap, .int .i64 more] w fun e w' => e = .returned (.bool (S.roomB l more)) ∧ Below w.heap.size w w' := by
  by_cases hneg : more < 0
  · have e : S.roomB l more = false := by unfold Sto.roomB; exact decide_eq_false (fun c => by omega)
    rw [e]
    clear h hS hl hm e
    go_enter Tryz.func109, Tryz.ntmps109
    go_wp2_with fail
    go_ret
    exact ⟨rfl, Below.refl _ _⟩
  have H := hide h
  have HL := hide hl
  have CLF : Hid (∀ w', Below w.heap.size w w' → Calls Tryz.prog 75 #[.pointer (some ⟨b, 1, none⟩)] w' fun e w2 => e = .returned (.int .i64 (S.F.left : Int)) ∧ w2 = w') := fun w' hb => sleft_any (h.below hb).frs hS.1
  have hlt2 := leftTo_le S.F S.F.hi
  have h1024 := hS.1.2.1
  clear h hl hS
  obtain ⟨n, hnn⟩ : ∃ n, n = l.length := ⟨_, rfl⟩
  rw [← hnn] at hn ⊢
  have HNN := hide hnn
  clear hnn
  have ZB := hide zero_rowC
  obtain ⟨ZR, hZR⟩ : ∃ ZR, ZR = rowC fun _ => false := ⟨_, rfl⟩
  rw [← hZR] at ZB
  have O0 : Hid (Own w (w.alloc (.cells ZR 208)) [(w.heap.size, .cells (rowC (cntd S l 0)) 208)]) := by
    show Own _ _ _
    rw [cntd_zero, ← hZR]; exact (Own.start w).alloc _
  clear hZR
  go_enter Tryz.func109, Tryz.ntmps109
  go_upto_region 5 with (with_reducible refine wpList_allocZ (by with_unfolding_all rfl) 208 (by with_unfolding_all rfl) ZR (unhide ZB) ?_)
  obtain ⟨g, hg⟩ : ∃ g, g = w.heap.size := ⟨_, rfl⟩
  have HG := hide hg
  rw [← hg] at O0 ⊢
  generalize w.alloc (.cells ZR 208) = w5 at *
  clear hg ZB
  go_wp2_with fail
  go_loopw [8, 10, 11, 12, 17] (fun nd _ _ _ q wr => ∃ j : Nat, j ≤ n ∧ q = .int .i64 j ∧ nd = .int .i64 (S.needTo l j : Int) ∧ Own w wr [(g, .cells (rowC (cntd S l j)) 208)]) (fun _ _ _ _ q _ => n - (intOf q).toNat)
  case atStart => exact ⟨0, by omega, rfl, rfl, unhide O0⟩
  case round =>
    clear O0
    obtain ⟨j, hj, rfl, rfl, hh⟩ := hrel
    have HO := hide hh
    clear hh
    have hne := needTo_le S l j
    by_cases hlt : j < n
    · have hlj : j < l.length := by have := unhide HNN; omega
      obtain ⟨x, off, rfl, hx⟩ : ∃ x off, a = some ⟨x, off, none⟩ ∧ ∀ i, i < l.length → w.cell? ⟨x, off + i, none⟩ = some (.int .i64 (l.getD i 0)) := by
        rcases unhide HL with h | h
        · rw [h] at hlj; simp at hlj
        · exact h
      have cx := (Keeps.of_below (F := fun _ => False) (unhide HO).below).cellOf (hx j hlj) id
      have hjn : (j : Int) < (n : Int) := by omega
      have HB : Hid (SRep m S wr b) := (unhide H).below (unhide HO).below
      have CF := hide (fun w' (h : SRep m S w' b) => find_any h (l.getD j 0))
      have CO := hide (fun w' z (h : SRep m S w' b) => isOwn_any h z)
      have BX := hide (fun w' (h : Below w.heap.size w w') => (unhide H).below h)
      have WN := hide (wants_no S (l.getD j 0))
      have WO := hide (wants_own S (l.getD j 0))
      have WY := hide (wants_yes S (l.getD j 0))
      have SK := hide (cntd_skip S l j hlj)
      have TW := hide (cntd_twice S l j hlj)
      have NW := hide (cntd_new S l j hlj)
      have FO := hide (fun (h : S.findE (l.getD j 0) = 0) => findE_ok h)
      have HV : Hid (foundV S (l.getD j 0) = .tuple #[.agg #[.int .i64 (S.at (l.getD j 0)).k, .int .i64 (S.at (l.getD j 0)).v, .int .i64 (S.at (l.getD j 0)).l], .int .i64 (S.findE (l.getD j 0))]) := rfl
      have AL : Hid (S.findE (l.getD j 0) = 0 → (S.at (l.getD j 0)).l = S.line (l.getD j 0)) := fun e => by unfold Sto.at Sto.line; rw [if_pos e]
      rw [unhide HV] at CF
      clear HV hx hlj
      generalize S.line (l.getD j 0) = ln at *
      generalize (S.at (l.getD j 0)).l = xl at *
      generalize (S.at (l.getD j 0)).k = xk at *
      generalize (S.at (l.getD j 0)).v = xv at *
      generalize S.findE (l.getD j 0) = E at *
      obtain ⟨zz, hzz⟩ : ∃ zz, zz = l.getD j 0 := ⟨_, rfl⟩
      rw [← hzz] at cx CF WN WO WY SK TW NW FO
      clear hzz
      by_cases hE : E = 0
      · have e1 := unhide AL hE
        obtain ⟨z0, z1, -⟩ := unhide FO hE
        obtain ⟨k, rfl⟩ : ∃ k : Nat, zz = (k : Int) := ⟨zz.toNat, (Int.toNat_of_nonneg z0).symm⟩
        have hk : k < 49 := by omega
        have hk1 : (k : Int) < 49 := z1
        subst hE
        rw [← e1] at WO WY
        clear e1 AL WN FO z0 z1
        cases hc : cntd S l j k with
        | true =>
          obtain ⟨EC0, EN0⟩ := unhide TW k rfl hc
          have EC := hide EC0
          have EN := hide EN0
          clear EC0 EN0 SK TW NW WO WY CO
          go_wp2_with fail
          refine (unhide CF _ (unhide HB)).mono ?_
          rintro e w1 ⟨rfl, hb⟩
          have O1 := hide (((unhide HO).call hb).alloc (.cells #[.int .i64 xk, .int .i64 xv, .int .i64 xl] 41))
          clear hb CF HO HB
          have ck : (w1.alloc (.cells #[.int .i64 xk, .int .i64 xv, .int .i64 xl] 41)).cell? ⟨g, k, none⟩ = some (.bool true) := by
            rw [cell_of_block ((unhide O1).at g (.cells (rowC (cntd S l j)) 208) (by simp)), rowC_get _ _ hk, hc]
          have O9 := hide (own_drop (unhide O1))
          clear O1 hc
          go_upto_region 9 with fail
          generalize w1.alloc (.cells #[.int .i64 xk, .int .i64 xv, .int .i64 xl] 41) = w2 at *
          rw [← unhide EC] at O9
          go_wp2_with fail
          go_roundw
          case rel => exact ⟨j + 1, by omega, by go_num, by rw [unhide EN], unhide O9⟩
          case measure => simp [intOf]; omega
        | false =>
          cases ho : S.own xl with
          | true =>
            obtain ⟨EC0, EN0⟩ := unhide SK (unhide WO ho)
            have EC := hide EC0
            have EN := hide EN0
            clear EC0 EN0 SK TW NW WO WY
            go_wp2_with fail
            refine (unhide CF _ (unhide HB)).mono ?_
            rintro e w1 ⟨rfl, hb⟩
            have O1 := hide (((unhide HO).call hb).alloc (.cells #[.int .i64 xk, .int .i64 xv, .int .i64 xl] 41))
            clear hb CF HO HB
            have ck : (w1.alloc (.cells #[.int .i64 xk, .int .i64 xv, .int .i64 xl] 41)).cell? ⟨g, k, none⟩ = some (.bool false) := by
              rw [cell_of_block ((unhide O1).at g (.cells (rowC (cntd S l j)) 208) (by simp)), rowC_get _ _ hk, hc]
            have cl : (w1.alloc (.cells #[.int .i64 xk, .int .i64 xv, .int .i64 xl] 41)).cell? ⟨w1.heap.size, 2, none⟩ = some (.int .i64 xl) := by
              rw [cell_of_block (heap_new w1 _)]; rfl
            have CO1 := hide (unhide CO _ xl (unhide BX _ (unhide O1).below))
            rw [ho] at CO1
            clear CO BX ho
            go_upto_region 9 with fail
            obtain ⟨g11, hg11⟩ : ∃ g11, g11 = w1.heap.size := ⟨_, rfl⟩
            rw [← hg11] at cl O1 ⊢
            clear hg11
            generalize w1.alloc (.cells #[.int .i64 xk, .int .i64 xv, .int .i64 xl] 41) = w2 at *
            go_wp2_with fail
            refine (unhide CO1).mono ?_
            rintro e w3 ⟨rfl, hb⟩
            have O9 := hide (own_drop ((unhide O1).call hb))
            clear hb O1 CO1 ck cl
            rw [← unhide EC] at O9
            go_wp2_with fail
            go_roundw
            case rel => exact ⟨j + 1, by omega, by go_num, by rw [unhide EN], unhide O9⟩
            case measure => simp [intOf]; omega
          | false =>
            obtain ⟨EC0, EN0⟩ := unhide NW k rfl hc (unhide WY rfl ho)
            have EC := hide EC0
            have EN := hide EN0
            clear EC0 EN0 SK TW NW WO WY
            go_wp2_with fail
            refine (unhide CF _ (unhide HB)).mono ?_
            rintro e w1 ⟨rfl, hb⟩
            have O1 := hide (((unhide HO).call hb).alloc (.cells #[.int .i64 xk, .int .i64 xv, .int .i64 xl] 41))
            clear hb CF HO HB
            have ck : (w1.alloc (.cells #[.int .i64 xk, .int .i64 xv, .int .i64 xl] 41)).cell? ⟨g, k, none⟩ = some (.bool false) := by
              rw [cell_of_block ((unhide O1).at g (.cells (rowC (cntd S l j)) 208) (by simp)), rowC_get _ _ hk, hc]
            have cl : (w1.alloc (.cells #[.int .i64 xk, .int .i64 xv, .int .i64 xl] 41)).cell? ⟨w1.heap.size, 2, none⟩ = some (.int .i64 xl) := by
              rw [cell_of_block (heap_new w1 _)]; rfl
            have CO1 := hide (unhide CO _ xl (unhide BX _ (unhide O1).below))
            rw [ho] at CO1
            clear CO BX ho
            go_upto_region 9 with fail
            obtain ⟨g11, hg11⟩ : ∃ g11, g11 = w1.heap.size := ⟨_, rfl⟩
            rw [← hg11] at cl O1 ⊢
            clear hg11
            generalize w1.alloc (.cells #[.int .i64 xk, .int .i64 xv, .int .i64 xl] 41) = w2 at *
            go_wp2_with fail
            refine (unhide CO1).mono ?_
            rintro e w3 ⟨rfl, hb⟩
            have O9 := hide (own_drop ((unhide O1).call hb))
            clear hb O1 CO1 ck cl
            have bg := (unhide O9).at g (.cells (rowC (cntd S l j)) 208) (by simp)
            have cg : w3.cell? ⟨g, k, none⟩ = some (.bool (cntd S l j k)) := by rw [cell_of_block bg]; exact rowC_get _ _ hk
            have fg : w3.frozen? ⟨g, k, none⟩ = false := unfrozen_of_block bg _
            have OA := hide (own_cell (unhide O9) (by rw [unhide HG]; exact Nat.le_refl _) (by intro p hp; cases hp) k (.bool true))
            rw [rowC_put _ _ k (unhide EC)] at OA
            clear bg O9 hc
            generalize cntd S l j k = old at cg
            go_wp2_with fail
            go_roundw
            case rel => exact ⟨j + 1, by omega, by go_num, by rw [unhide EN]; go_num, unhide OA⟩
            case measure => simp [intOf]; omega
      · obtain ⟨EC0, EN0⟩ := unhide SK (unhide WN hE)
        have EC := hide EC0
        have EN := hide EN0
        have hE1 : (E != 0) = true := by simpa using hE
        clear EC0 EN0 SK TW NW WO WY WN FO AL CO
        go_wp2_with fail
        refine (unhide CF _ (unhide HB)).mono ?_
        rintro e w1 ⟨rfl, hb⟩
        have O1 := hide (((unhide HO).call hb).alloc (.cells #[.int .i64 xk, .int .i64 xv, .int .i64 xl] 41))
        clear hb CF HO HB
        have O9 := hide (own_drop (unhide O1))
        clear O1
        go_upto_region 9 with fail
        generalize w1.alloc (.cells #[.int .i64 xk, .int .i64 xv, .int .i64 xl] 41) = w2 at *
        rw [← unhide EC] at O9
        go_wp2_with fail
        go_roundw
        case rel => exact ⟨j + 1, by omega, by go_num, by rw [unhide EN], unhide O9⟩
        case measure => simp [intOf]; omega
    · have ejn : j = n := by omega
      have HR : Hid (S.roomB l more = decide (more ≤ (S.F.left : Int) - (S.needTo l j : Int))) := by
        show _ = _
        unfold Sto.roomB
        rw [← unhide HNN, ← ejn]
        rw [decide_eq_decide]
        omega
      have CL := hide (unhide CLF _ (unhide HO).below)
      have c1 := ((unhide H).below (unhide HO).below).frs
      have hlf : S.F.left ≤ 1024 := Nat.le_trans hlt2 h1024
      have hge : ¬ ((j : Int) < (n : Int)) := by omega
      clear c1 hlt2 h1024 CLF
      generalize S.F.left = lf at *
      generalize S.needTo l j = nd at *
      go_wp2_with fail
      refine (unhide CL).mono ?_
      rintro e wr ⟨rfl, rfl⟩
      go_wp2_with fail
      go_ret
      exact ⟨by rw [unhide HR]; rfl, (unhide HO).below⟩

end Go.Proofs.YtinhnnnehhlceaaGreat
