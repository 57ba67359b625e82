/-
  For every row of values, every number and whatever is kept, NvmFenced returns true and leaves its arguments as they were: what was stored, flushed and fenced is there behind any Crash, and what was stored behind it is there as some first stores made it. No condition.
-/
import Derived.Test.YtkbafneoffcecaaNTotal
import Derived.Test.YtkbafneoffcecaaLaw
import Derived.Test.YtkbafneoffcecaaRows
namespace Go.Proofs.Ytkbafneoffcecaa.nvmFenced
open Go.ChangeShapes Go.WideShapes Go.ChangeAt Go.RowKit Go.Joins
set_option linter.unusedVariables false
set_option linter.unusedSimpArgs false

def stL (zs : List Int) (i : Nat) : List (Nat × Int) := (List.range i).map fun j => (j, zs.getD j 0)
theorem stL_next (zs : List Int) (i : Nat) : stL zs (i + 1) = stL zs i ++ [(i, zs.getD i 0)] := by simp [stL, List.range_succ]
theorem stL_len (zs : List Int) (i : Nat) : (stL zs i).length = i := by simp [stL]
theorem stL_take (zs : List Int) (i m : Nat) (h : m ≤ i) : (stL zs i).take m = stL zs m := by
  unfold stL
  rw [← List.map_take, List.take_range, Nat.min_eq_left h]
def pre (zs : List Int) (i : Nat) : Nat → Int := runS (stL zs i) fun _ => 0
theorem pre_next (zs : List Int) (i : Nat) : pre zs (i + 1) = upd (pre zs i) i (zs.getD i 0) := by unfold pre; rw [stL_next, runS_snoc]
/-- The line, of whose stores the first c are sure. -/
structure Inv (zs : List Int) (c i B : Nat) (A : Mm) : Prop where
  ok : A.ok B
  n : A.n = 64
  on : A.on = true
  fuse : A.fuse = -1
  s : (A.l 9).s = pre zs c
  t : (A.l 9).t = (stL zs i).drop c
theorem Inv.may {zs : List Int} {c i B : Nat} {A : Mm} (h : Inv zs c i B A) : A.may = true := by simp [Mm.may, h.on, h.fuse]
theorem Inv.stepped {zs : List Int} {c i B : Nat} {A : Mm} (h : Inv zs c i B A) (l : Nat → Ln) : A.step l = A.stepped l := by unfold Mm.step; rw [h.may]; rfl
theorem Inv.store {zs : List Int} {c i B : Nat} {A : Mm} (h : Inv zs c i B A) (hc : c ≤ i) (hi : i < 8) (hx : InU (zs.getD i 0)) : Inv zs c (i + 1) (B + 1) (A.store 9 i (zs.getD i 0)) := by
  have hok := ok_store h.ok 9 i (zs.getD i 0) hi hx
  unfold Mm.store at hok ⊢
  rw [h.stepped] at hok ⊢
  refine ⟨hok, h.n, h.on, by simp [Mm.stepped, h.fuse], ?_, ?_⟩
  · show (upd A.l 9 _ 9).s = _
    rw [upd_same]; exact h.s
  · show (upd A.l 9 _ 9).t = _
    rw [upd_same, stL_next, List.drop_append_of_le_length (by rw [stL_len]; exact hc), ← h.t]; rfl
theorem Inv.flush {zs : List Int} {c i B : Nat} {A : Mm} (h : Inv zs c i B A) : Inv zs c i (B + 1) (A.flush 2 9) ∧ ((A.flush 2 9).l 9).f 2 = ((A.flush 2 9).l 9).t.length := by
  have hok := ok_flush h.ok 2 9
  unfold Mm.flush at hok ⊢
  rw [h.stepped] at hok ⊢
  have e : (A.stepped (upd A.l 9 ((A.l 9).flush 2))).l 9 = (A.l 9).flush 2 := upd_same A.l 9 _
  refine ⟨⟨hok, h.n, h.on, by simp [Mm.stepped, h.fuse], by rw [e]; exact h.s, by rw [e]; exact h.t⟩, ?_⟩
  rw [e]; exact upd_same (A.l 9).f 2 _
theorem Inv.fence {zs : List Int} {c i B : Nat} {A : Mm} (h : Inv zs c i B A) (hc : c ≤ i) (hf : (A.l 9).f 2 = (A.l 9).t.length) : Inv zs i i (B + 1) (A.fence 2) := by
  have hok := ok_fence h.ok 2
  unfold Mm.fence at hok ⊢
  rw [h.stepped] at hok ⊢
  have e : (A.stepped fun i => (A.l i).settle ((A.l i).f 2)).l 9 = (A.l 9).settle ((A.l 9).t.length) := by show (A.l 9).settle ((A.l 9).f 2) = _; rw [hf]
  refine ⟨hok, h.n, h.on, by simp [Mm.stepped, h.fuse], ?_, ?_⟩
  · rw [e]
    show runS ((A.l 9).t.take _) (A.l 9).s = _
    rw [List.take_length, h.s, h.t]
    unfold pre
    rw [← stL_take zs i c hc]; exact runS_parts _ _ _
  · rw [e]
    show (A.l 9).t.drop _ = _
    rw [List.drop_length, List.drop_of_length_le (by rw [stL_len]; exact Nat.le_refl _)]
theorem Inv.ends {zs : List Int} {c i B : Nat} {A : Mm} (h : Inv zs c i B A) (hc : c ≤ i) (keep : List Int) : ∃ m, c ≤ m ∧ m ≤ i ∧ ((A.crash keep).l 9).has = pre zs m := by
  have hk := keptN_le keep (rank A.l 9) (A.l 9).t.length
  refine ⟨c + keptN keep (rank A.l 9) (A.l 9).t.length, by omega, ?_, ?_⟩
  · have : (A.l 9).t.length = i - c := by rw [h.t, List.length_drop, stL_len]
    omega
  · show runS ((A.l 9).t.take _) (A.l 9).s = _
    have hl : (A.l 9).t.length = i - c := by rw [h.t, List.length_drop, stL_len]
    generalize keptN keep (rank A.l 9) (A.l 9).t.length = κ at *
    rw [h.t, h.s]
    unfold pre
    rw [← runS_append, ← stL_take zs i c hc, ← stL_take zs i (c + κ) (by omega), List.take_add]
def a0 : Mm := Mm.new 64 fun _ _ => 0
theorem inv0 (zs : List Int) : Inv zs 0 0 0 a0 := ⟨ok_new (by decide) (by decide) (fun _ _ => ⟨by decide, by decide⟩), rfl, rfl, rfl, rfl, rfl⟩

set_option maxRecDepth 100000 in
set_option maxHeartbeats 4000000 in
theorem walk (W : World) (a : Option Addr) (zs : List Int) (n cap : Nat) (z : Int) (a' : Option Addr) (keep : List Int) (n' cap' : Nat) (hV : IsRow W .u64 a zs n cap) (wz : (Lit.int .i64 z).wf = true) (hK : IsRow W .i64 a' keep n' cap') :
    Calls Try.prog 5 #[.slice a n cap, .int .i64 z, .slice a' n' cap'] W fun e W' => e = .returned (.bool true) ∧ Below W.heap.size W W' := by
  have hz : In64 z := in64_wf wz
  obtain ⟨v1, v2, v3, v4, v5⟩ := hV
  have V1 := hide v1
  have V2' := hide v2
  have V3 : Hid (∀ i, i < n → InU (zs.getD i 0)) := fun i hi => inU_wf (v3 _ (by rw [List.getD_eq_getElem?_getD, List.getElem?_eq_getElem (by omega)]; simp))
  obtain ⟨q1, q2, q3⟩ := hK.keep
  have HKP := hide q1
  have HKR := hide q2
  obtain rfl : n' = keep.length := hK.1.symm
  clear v1 v2 v3 wz hK q1 q2
  obtain ⟨m, hm⟩ : ∃ m, m = min n 8 := ⟨_, rfl⟩
  have hmn : m ≤ n := by omega
  have hm8 : m ≤ 8 := by omega
  obtain ⟨k, hk⟩ : ∃ k, k = kindN z (m + 1) := ⟨_, rfl⟩
  have hkm : k ≤ m := by have := kindN_lt z (m + 1) (by omega); omega
  have CK : Hid (∀ w, Calls Try.prog 12 #[.int .i64 z, .int .i64 ((m : Int) + 1)] w fun e w' => e = .returned (.int .i64 (k : Int)) ∧ w' = w) := fun w => by
    rw [hk, show (m : Int) + 1 = ((m + 1 : Nat) : Int) by omega]; exact kind_any z hz (m + 1) (by omega) (by omega) w
  have hmin : ∀ (w : World) (ts : Array TypeId) (t : TypeId), (Builtin.min_ ts t #[.int .i64 (n : Int), .int .i64 8]).run Try.prog w = .ok (.int .i64 (m : Int)) w := fun w ts t => by
    rw [run_min_int2]
    congr 2
    split <;> omega
  have HMIN := hide hmin
  clear hk hz hm hmin
  go_enter Try.func5, Try.ntmps5
  go_wp2_with fail
  refine (shown_any W).mono ?_
  rintro e w0 ⟨rfl, hk0⟩
  go_wp2_with fail
  refine (new_any w0 64 (by decide) (by decide)).mono ?_
  intro e w1 hmm
  obtain ⟨p, rfl, h0, -⟩ := made_has W hk0 hmm (fun _ => False) (fun _ h => h.elim)
  have H0 : Hid (Has W w1 (fun _ => False) p a0) := h0
  clear hmm h0 hk0
  have hmin := unhide HMIN
  go_wp2_with fail
  refine (unhide CK _).mono ?_
  rintro e w1 ⟨rfl, rfl⟩
  clear CK hmin HMIN
  go_wp2_with fail
  go_loopw [12] (fun u wr => ∃ i : Nat, i ≤ m ∧ u = .int .i64 i ∧ ∃ A, Has W wr (fun _ => False) p A ∧ Inv zs (if i ≤ k then 0 else k) i (3 * i) A) (fun u _ => m - (intOf u).toNat)
  case atStart => exact ⟨0, by omega, rfl, a0, unhide H0, by rw [if_pos (by omega)]; exact inv0 zs⟩
  case round =>
    clear H0
    obtain ⟨i, hi, rfl, A, hA, inv⟩ := hrel
    have HA := hide hA
    clear hA
    by_cases hlt : i < m
    · obtain ⟨x, off, rfl, hx⟩ : ∃ b off, a = some ⟨b, off, none⟩ ∧ ∀ i, i < zs.length → W.cell? ⟨b, off + i, none⟩ = some (.int .u64 (zs.getD i 0)) := by
        rcases unhide V2' with h | h
        · have := unhide V1; rw [h] at this; simp at this; omega
        · exact h
      have hu := unhide V3 i (by omega)
      obtain ⟨y, hy⟩ : ∃ y, y = zs.getD i 0 := ⟨_, rfl⟩
      have HY := hide hy
      have XC : Hid (W.cell? ⟨x, off + i, none⟩ = some (.int .u64 y)) := by rw [hy]; exact hx i (by have := unhide V1; omega)
      rw [← hy] at hu
      clear hx hy
      have hin : (i : Int) < (n : Int) := by omega
      have him : (i : Int) < (m : Int) := by omega
      by_cases hik : i = k
      · subst hik
        rw [if_pos (Nat.le_refl _)] at inv
        go_wp2_with fail
        refine ((unhide HA).flush (ok_mono inv.ok (by omega)) 2 9 2 9 rfl rfl (by decide) (by rw [inv.n]; decide)).mono ?_
        rintro e w2 ⟨rfl, h2, -⟩
        obtain ⟨inv2, hf2⟩ := inv.flush
        have H2 := hide h2
        clear h2 HA
        go_wp2_with fail
        refine ((unhide H2).fence (ok_mono inv2.ok (by omega)) 2 2 rfl (by decide)).mono ?_
        rintro e w3 ⟨rfl, h3, -⟩
        have invx := inv2.fence (by omega) hf2
        have HX := hide h3
        have cx := (unhide HX).keeps.cellOf (unhide XC) id
        clear h3 H2 hf2
        go_wp2_with fail
        refine ((unhide HX).store (ok_mono invx.ok (by omega)) 9 i 9 i rfl rfl (by rw [invx.n]; decide) (by omega) y).mono ?_
        rintro e w9 ⟨rfl, h9, -⟩
        have H9 := hide h9
        have inv9 := invx.store (by omega) (by omega) (by rw [← unhide HY]; exact hu)
        rw [← unhide HY] at inv9
        clear h9 HX
        go_wp2_with fail
        go_roundw
        case rel => exact ⟨i + 1, by omega, by go_num, _, unhide H9, by rw [if_neg (by omega)]; exact ⟨ok_mono inv9.ok (by omega), inv9.n, inv9.on, inv9.fuse, inv9.s, inv9.t⟩⟩
        case measure => simp [intOf]; omega
      · have hik' : ((i : Int) == (k : Int)) = false := beq_eq_false_iff_ne.2 (by omega)
        have HX := HA
        have cx := (unhide HX).keeps.cellOf (unhide XC) id
        by_cases hlt2 : i < k
        · rw [if_pos (by omega)] at inv
          have invx := inv
          go_wp2_with fail
          refine ((unhide HX).store (ok_mono invx.ok (by omega)) 9 i 9 i rfl rfl (by rw [invx.n]; decide) (by omega) y).mono ?_
          rintro e w9 ⟨rfl, h9, -⟩
          have H9 := hide h9
          have inv9 := invx.store (by omega) (by omega) (by rw [← unhide HY]; exact hu)
          rw [← unhide HY] at inv9
          clear h9 HX
          go_wp2_with fail
          go_roundw
          case rel => exact ⟨i + 1, by omega, by go_num, _, unhide H9, by rw [if_pos (by omega)]; exact ⟨ok_mono inv9.ok (by omega), inv9.n, inv9.on, inv9.fuse, inv9.s, inv9.t⟩⟩
          case measure => simp [intOf]; omega
        · rw [if_neg (by omega)] at inv
          have invx := inv
          go_wp2_with fail
          refine ((unhide HX).store (ok_mono invx.ok (by omega)) 9 i 9 i rfl rfl (by rw [invx.n]; decide) (by omega) y).mono ?_
          rintro e w9 ⟨rfl, h9, -⟩
          have H9 := hide h9
          have inv9 := invx.store (by omega) (by omega) (by rw [← unhide HY]; exact hu)
          rw [← unhide HY] at inv9
          clear h9 HX
          go_wp2_with fail
          go_roundw
          case rel => exact ⟨i + 1, by omega, by go_num, _, unhide H9, by rw [if_neg (by omega)]; exact ⟨ok_mono inv9.ok (by omega), inv9.n, inv9.on, inv9.fuse, inv9.s, inv9.t⟩⟩
          case measure => simp [intOf]; omega
    · have him : i = m := by omega
      rw [him] at inv
      have HIM := hide him
      have hge : ¬ ((i : Int) < (m : Int)) := by omega
      clear hi hlt him
      by_cases hkm2 : k = m
      · rw [if_pos (by omega)] at inv
        have hkb : ((k : Int) == (m : Int)) = true := by simp [hkm2]
        have HKM := hide hkm2
        clear hkm2
        go_wp2_with fail
        refine ((unhide HA).flush (ok_mono inv.ok (by omega)) 2 9 2 9 rfl rfl (by decide) (by rw [inv.n]; decide)).mono ?_
        rintro e w2 ⟨rfl, h2, -⟩
        obtain ⟨inv2, hf2⟩ := inv.flush
        have H2 := hide h2
        clear h2 HA
        go_wp2_with fail
        refine ((unhide H2).fence (ok_mono inv2.ok (by omega)) 2 2 rfl (by decide)).mono ?_
        rintro e w3 ⟨rfl, h3, -⟩
        have invf := inv2.fence (by omega) hf2
        rw [show Inv zs m m = Inv zs k m by rw [unhide HKM]] at invf
        have HF := hide h3
        obtain ⟨AF, hAF⟩ : ∃ AF, AF = (A.flush 2 9).fence 2 := ⟨_, rfl⟩
        rw [← hAF] at invf HF
        clear h3 H2 hf2 hAF inv inv2 hkb hge
        go_wp2_with fail
        refine ((unhide HF).crash_arg (ok_mono invf.ok (by omega)) a' keep cap' (unhide HKR) q3 (unhide HKP)).mono ?_
        rintro e w5 ⟨rfl, h5, -⟩
        obtain ⟨K, k1, k2, hK⟩ := invf.ends hkm keep
        have NF : Hid ((AF.crash keep).n = 64) := invf.n
        obtain ⟨D, hD⟩ : ∃ D, D = AF.crash keep := ⟨_, rfl⟩
        have HDO : Hid (D.on = true) := by rw [hD]; rfl
        rw [← hD] at h5 hK NF
        have H5 := hide h5
        have HKE := hide hK
        clear h5 hK HF invf hD
        go_wp2_with fail
        refine ((unhide H5).load 9 9 rfl (by rw [unhide NF]; decide) (unhide HDO) (by rw [unhide NF]; decide)).mono ?_
        rintro e w6 ⟨rfl, h6, -⟩
        have H6 := hide h6
        rw [unhide HKE]
        obtain ⟨f, hf⟩ : ∃ f, f = pre zs K := ⟨_, rfl⟩
        rw [← hf]
        have HFE := hide hf
        clear h6 H5 hf HKE
        have hst := store_line f
        have hsz := lnV_size f
        go_upto_region 19 with fail
        clear hst hsz
        have HL := hide (heap_new w6 (.cells (lnV f) 50))
        have H7 := hide ((unhide H6).alloc (.cells (lnV f) 50))
        obtain ⟨L, hL⟩ : ∃ L, L = w6.heap.size := ⟨_, rfl⟩
        rw [← hL] at HL H7 ⊢
        have H8 : Hid (Has W (w6.alloc (.cells (lnV f) 50)) (fun k => k = L) p D) := (unhide H7).less (fun _ h => Or.inr h)
        clear hL H6 H7
        generalize w6.alloc (.cells (lnV f) 50) = V at *
        go_wp2_with fail
        go_loopw [15] (fun u wr => ∃ c : Nat, k ≤ c ∧ c ≤ K ∧ u = .int .i64 c ∧ Has W wr (fun k => k = L) p D ∧ wr.heap[L]? = some (.cells (lnV f) 50 (0, 0))) (fun u _ => m + 1 - (intOf u).toNat)
        case atStart => exact ⟨k, Nat.le_refl _, k1, rfl, unhide H8, unhide HL⟩
        case round =>
          clear H8 HL
          obtain ⟨c, hc1, hc2, rfl, hcr, hlr⟩ := hrel
          have HC := hide hcr
          have HLC := hide hlr
          clear hcr hlr
          have hcm : (c : Int) ≤ (m : Int) := by omega
          have hst := store_line fun _ => 0
          have hsz := lnV_size fun _ => 0
          go_upto_region 25 with (refine wpList_build0 rfl 50 rfl _ line_zero ?_)
          clear hst hsz
          have HM := hide (heap_new wr (.cells (lnV fun _ => 0) 50))
          have HCM := hide ((unhide HC).alloc (.cells (lnV fun _ => 0) 50))
          have HL2 : Hid ((wr.alloc (.cells (lnV fun _ => 0) 50)).heap[L]? = some (.cells (lnV f) 50 (0, 0))) := (Below.heap_alloc wr _ L ((unhide HC).lt L rfl)).trans (unhide HLC)
          have HWM : Hid (W.heap.size ≤ wr.heap.size) := (unhide HC).keeps.size
          have hLM : L ≠ wr.heap.size := by have := (unhide HC).lt L rfl; omega
          obtain ⟨M, hM⟩ : ∃ M, M = wr.heap.size := ⟨_, rfl⟩
          rw [← hM] at HM HCM HWM hLM ⊢
          clear hM HC HLC
          generalize wr.alloc (.cells (lnV fun _ => 0) 50) = V2 at *
          go_wp2_with fail
          go_loopw [17] (fun u wi => ∃ j : Nat, j ≤ c ∧ u = .int .i64 j ∧ Has W wi (fun k => k = L ∨ k = M) p D ∧ wi.heap[L]? = some (.cells (lnV f) 50 (0, 0)) ∧ wi.heap[M]? = some (.cells (lnV (pre zs j)) 50 (0, 0))) (fun u _ => c - (intOf u).toNat)
          case atStart => exact ⟨0, by omega, rfl, unhide HCM, unhide HL2, unhide HM⟩
          case round =>
            clear HCM HL2 HM
            obtain ⟨j, hj, rfl, hji, hjl, hjm⟩ := hrel
            have HJ := hide hji
            have HJL := hide hjl
            have HJM := hide hjm
            clear hji hjl hjm
            by_cases hjc : j < c
            · have hjc' : (j : Int) < (c : Int) := by omega
              have hjn : (j : Int) < (n : Int) := by omega
              have hj8 : (j : Int) < 8 := by omega
              obtain ⟨x, off, rfl, hx⟩ : ∃ b off, a = some ⟨b, off, none⟩ ∧ ∀ i, i < zs.length → W.cell? ⟨b, off + i, none⟩ = some (.int .u64 (zs.getD i 0)) := by
                rcases unhide V2' with h | h
                · have := unhide V1; rw [h] at this; simp at this; omega
                · exact h
              have cx := (unhide HJ).keeps.cellOf (hx j (by have := unhide V1; omega)) id
              have HN := hide (pre_next zs j)
              obtain ⟨y, hy⟩ : ∃ y, y = zs.getD j 0 := ⟨_, rfl⟩
              rw [← hy] at cx HN
              have d1 : wr.cell? ⟨M, j, none⟩ = some (.int .u64 (pre zs j j)) := by rw [cell_of_block (unhide HJM)]; exact tab_get _ _ _ (by omega)
              have d2 : wr.frozen? ⟨M, j, none⟩ = false := unfrozen_of_block (unhide HJM) _
              generalize pre zs j j = old at *
              clear hx hy
              go_wp2_with fail
              go_roundw
              case rel =>
                refine ⟨j + 1, by omega, by go_num, (unhide HJ).own (Or.inr rfl) (unhide HWM) (Keeps.setCell (F := (· = M)) (p := ⟨M, j, none⟩) (Keeps.refl _ _) rfl _), ?_, ?_⟩
                · rw [heap_setCell_other _ _ _ _ (show L ≠ (⟨M, j, none⟩ : Addr).block from hLM)]; exact unhide HJL
                · rw [unhide HN]
                  have := Blk.set (w := wr) (c := M) (N := 8) (T := 50) (f := fun i => .int .u64 (pre zs j i)) (unhide HJM) j (.int .u64 y)
                  refine (Blk.ext this fun i hi => ?_ : Blk _ M 8 50 (fun i => .int .u64 (upd (pre zs j) j y i)))
                  unfold upd; split <;> rfl
              case measure => simp [intOf]; omega
            · obtain rfl : j = c := by omega
              have s8 : (Try.prog.info? 50).map (·.size) = some (lnV f).size := by rw [lnV_size]; exact lsize
              have s8' : (Try.prog.info? 50).map (·.size) = some (lnV (pre zs j)).size := by rw [lnV_size]; exact lsize
              by_cases heq : eqL f (pre zs j) = true
              · go_wp2_with (first | (refine wpList_load_row rfl 50 (.tmp 13) rfl L rfl _ _ _ _ (unhide HJL) Try.underlying50 rfl s8 ?_) | (refine wpList_load_row rfl 50 (.tmp 16) rfl M rfl _ _ _ _ (unhide HJM) Try.underlying50 rfl s8' ?_) | (refine wpList_eql (by rfl) (.tmp 90) (.tmp 91) rfl f (pre zs j) rfl rfl ?_; rw [heq]))
                go_ret
                exact ⟨rfl, (unhide HJ).keeps.below (Nat.le_refl _) (fun _ h => h.elim)⟩
              · have hjK : j < K := by
                  rcases Nat.lt_or_ge j K with h | h
                  · exact h
                  · exfalso
                    obtain rfl : j = K := by omega
                    exact heq (by rw [unhide HFE]; exact eqL_refl _)
                have heq' : eqL f (pre zs j) = false := by simpa using heq
                go_wp2_with (first | (refine wpList_load_row rfl 50 (.tmp 13) rfl L rfl _ _ _ _ (unhide HJL) Try.underlying50 rfl s8 ?_) | (refine wpList_load_row rfl 50 (.tmp 16) rfl M rfl _ _ _ _ (unhide HJM) Try.underlying50 rfl s8' ?_) | (refine wpList_eql (by rfl) (.tmp 90) (.tmp 91) rfl f (pre zs j) rfl rfl ?_; rw [heq']))
                go_roundw
                case rel => exact ⟨j + 1, by omega, by omega, by go_num, (unhide HJ).less (fun _ h => Or.inl h), unhide HJL⟩
                case measure => simp [intOf]; omega
      · have hki : ((k : Int) == (m : Int)) = false := beq_eq_false_iff_ne.2 (by omega)
        rw [if_neg (by omega)] at inv
        have invf := inv
        have HF := HA
        obtain ⟨AF, hAF⟩ : ∃ AF, AF = A := ⟨_, rfl⟩
        rw [← hAF] at invf HF
        clear HA hAF inv
        go_wp2_with fail
        clear hki hge
        refine ((unhide HF).crash_arg (ok_mono invf.ok (by omega)) a' keep cap' (unhide HKR) q3 (unhide HKP)).mono ?_
        rintro e w5 ⟨rfl, h5, -⟩
        obtain ⟨K, k1, k2, hK⟩ := invf.ends hkm keep
        have NF : Hid ((AF.crash keep).n = 64) := invf.n
        obtain ⟨D, hD⟩ : ∃ D, D = AF.crash keep := ⟨_, rfl⟩
        have HDO : Hid (D.on = true) := by rw [hD]; rfl
        rw [← hD] at h5 hK NF
        have H5 := hide h5
        have HKE := hide hK
        clear h5 hK HF invf hD
        go_wp2_with fail
        refine ((unhide H5).load 9 9 rfl (by rw [unhide NF]; decide) (unhide HDO) (by rw [unhide NF]; decide)).mono ?_
        rintro e w6 ⟨rfl, h6, -⟩
        have H6 := hide h6
        rw [unhide HKE]
        obtain ⟨f, hf⟩ : ∃ f, f = pre zs K := ⟨_, rfl⟩
        rw [← hf]
        have HFE := hide hf
        clear h6 H5 hf HKE
        have hst := store_line f
        have hsz := lnV_size f
        go_upto_region 19 with fail
        clear hst hsz
        have HL := hide (heap_new w6 (.cells (lnV f) 50))
        have H7 := hide ((unhide H6).alloc (.cells (lnV f) 50))
        obtain ⟨L, hL⟩ : ∃ L, L = w6.heap.size := ⟨_, rfl⟩
        rw [← hL] at HL H7 ⊢
        have H8 : Hid (Has W (w6.alloc (.cells (lnV f) 50)) (fun k => k = L) p D) := (unhide H7).less (fun _ h => Or.inr h)
        clear hL H6 H7
        generalize w6.alloc (.cells (lnV f) 50) = V at *
        go_wp2_with fail
        go_loopw [15] (fun u wr => ∃ c : Nat, k ≤ c ∧ c ≤ K ∧ u = .int .i64 c ∧ Has W wr (fun k => k = L) p D ∧ wr.heap[L]? = some (.cells (lnV f) 50 (0, 0))) (fun u _ => m + 1 - (intOf u).toNat)
        case atStart => exact ⟨k, Nat.le_refl _, k1, rfl, unhide H8, unhide HL⟩
        case round =>
          clear H8 HL
          obtain ⟨c, hc1, hc2, rfl, hcr, hlr⟩ := hrel
          have HC := hide hcr
          have HLC := hide hlr
          clear hcr hlr
          have hcm : (c : Int) ≤ (m : Int) := by omega
          have hst := store_line fun _ => 0
          have hsz := lnV_size fun _ => 0
          go_upto_region 25 with (refine wpList_build0 rfl 50 rfl _ line_zero ?_)
          clear hst hsz
          have HM := hide (heap_new wr (.cells (lnV fun _ => 0) 50))
          have HCM := hide ((unhide HC).alloc (.cells (lnV fun _ => 0) 50))
          have HL2 : Hid ((wr.alloc (.cells (lnV fun _ => 0) 50)).heap[L]? = some (.cells (lnV f) 50 (0, 0))) := (Below.heap_alloc wr _ L ((unhide HC).lt L rfl)).trans (unhide HLC)
          have HWM : Hid (W.heap.size ≤ wr.heap.size) := (unhide HC).keeps.size
          have hLM : L ≠ wr.heap.size := by have := (unhide HC).lt L rfl; omega
          obtain ⟨M, hM⟩ : ∃ M, M = wr.heap.size := ⟨_, rfl⟩
          rw [← hM] at HM HCM HWM hLM ⊢
          clear hM HC HLC
          generalize wr.alloc (.cells (lnV fun _ => 0) 50) = V2 at *
          go_wp2_with fail
          go_loopw [17] (fun u wi => ∃ j : Nat, j ≤ c ∧ u = .int .i64 j ∧ Has W wi (fun k => k = L ∨ k = M) p D ∧ wi.heap[L]? = some (.cells (lnV f) 50 (0, 0)) ∧ wi.heap[M]? = some (.cells (lnV (pre zs j)) 50 (0, 0))) (fun u _ => c - (intOf u).toNat)
          case atStart => exact ⟨0, by omega, rfl, unhide HCM, unhide HL2, unhide HM⟩
          case round =>
            clear HCM HL2 HM
            obtain ⟨j, hj, rfl, hji, hjl, hjm⟩ := hrel
            have HJ := hide hji
            have HJL := hide hjl
            have HJM := hide hjm
            clear hji hjl hjm
            by_cases hjc : j < c
            · have hjc' : (j : Int) < (c : Int) := by omega
              have hjn : (j : Int) < (n : Int) := by omega
              have hj8 : (j : Int) < 8 := by omega
              obtain ⟨x, off, rfl, hx⟩ : ∃ b off, a = some ⟨b, off, none⟩ ∧ ∀ i, i < zs.length → W.cell? ⟨b, off + i, none⟩ = some (.int .u64 (zs.getD i 0)) := by
                rcases unhide V2' with h | h
                · have := unhide V1; rw [h] at this; simp at this; omega
                · exact h
              have cx := (unhide HJ).keeps.cellOf (hx j (by have := unhide V1; omega)) id
              have HN := hide (pre_next zs j)
              obtain ⟨y, hy⟩ : ∃ y, y = zs.getD j 0 := ⟨_, rfl⟩
              rw [← hy] at cx HN
              have d1 : wr.cell? ⟨M, j, none⟩ = some (.int .u64 (pre zs j j)) := by rw [cell_of_block (unhide HJM)]; exact tab_get _ _ _ (by omega)
              have d2 : wr.frozen? ⟨M, j, none⟩ = false := unfrozen_of_block (unhide HJM) _
              generalize pre zs j j = old at *
              clear hx hy
              go_wp2_with fail
              go_roundw
              case rel =>
                refine ⟨j + 1, by omega, by go_num, (unhide HJ).own (Or.inr rfl) (unhide HWM) (Keeps.setCell (F := (· = M)) (p := ⟨M, j, none⟩) (Keeps.refl _ _) rfl _), ?_, ?_⟩
                · rw [heap_setCell_other _ _ _ _ (show L ≠ (⟨M, j, none⟩ : Addr).block from hLM)]; exact unhide HJL
                · rw [unhide HN]
                  have := Blk.set (w := wr) (c := M) (N := 8) (T := 50) (f := fun i => .int .u64 (pre zs j i)) (unhide HJM) j (.int .u64 y)
                  refine (Blk.ext this fun i hi => ?_ : Blk _ M 8 50 (fun i => .int .u64 (upd (pre zs j) j y i)))
                  unfold upd; split <;> rfl
              case measure => simp [intOf]; omega
            · obtain rfl : j = c := by omega
              have s8 : (Try.prog.info? 50).map (·.size) = some (lnV f).size := by rw [lnV_size]; exact lsize
              have s8' : (Try.prog.info? 50).map (·.size) = some (lnV (pre zs j)).size := by rw [lnV_size]; exact lsize
              by_cases heq : eqL f (pre zs j) = true
              · go_wp2_with (first | (refine wpList_load_row rfl 50 (.tmp 13) rfl L rfl _ _ _ _ (unhide HJL) Try.underlying50 rfl s8 ?_) | (refine wpList_load_row rfl 50 (.tmp 16) rfl M rfl _ _ _ _ (unhide HJM) Try.underlying50 rfl s8' ?_) | (refine wpList_eql (by rfl) (.tmp 90) (.tmp 91) rfl f (pre zs j) rfl rfl ?_; rw [heq]))
                go_ret
                exact ⟨rfl, (unhide HJ).keeps.below (Nat.le_refl _) (fun _ h => h.elim)⟩
              · have hjK : j < K := by
                  rcases Nat.lt_or_ge j K with h | h
                  · exact h
                  · exfalso
                    obtain rfl : j = K := by omega
                    exact heq (by rw [unhide HFE]; exact eqL_refl _)
                have heq' : eqL f (pre zs j) = false := by simpa using heq
                go_wp2_with (first | (refine wpList_load_row rfl 50 (.tmp 13) rfl L rfl _ _ _ _ (unhide HJL) Try.underlying50 rfl s8 ?_) | (refine wpList_load_row rfl 50 (.tmp 16) rfl M rfl _ _ _ _ (unhide HJM) Try.underlying50 rfl s8' ?_) | (refine wpList_eql (by rfl) (.tmp 90) (.tmp 91) rfl f (pre zs j) rfl rfl ?_; rw [heq']))
                go_roundw
                case rel => exact ⟨j + 1, by omega, by omega, by go_num, (unhide HJ).less (fun _ h => Or.inl h), unhide HJL⟩
                case measure => simp [intOf]; omega

set_option maxRecDepth 100000 in
theorem lifted (os : Os) (started : os.Started) (H : Type) (enc : TypeId × Value → H) :
    ReturnsInHanded {} Try.checked os 5 .any (Rows.nvmFencedSpec.pre6 enc Try.prog Try.f5 Rows.nvmFencedRow.domain false) (Rows.nvmFencedSpec.post enc Try.prog Try.f5 false true false false) := by
  refine law_frame (C := Try.checked) (ts := [54, 3, 33]) (tb := 4) (by kernel_rfl) started (by kernel_rfl) Try.func5 Try.params5 (by kernel_rfl) Try.underlying4 (by kernel_rfl) (by kernel_rfl) rfl ?_
    (ChangeSpec.witness6 (enc := enc) (C := Try.checked) false ⟨#[], #[.slice none 0 0, .int .i64 0, .slice none 0 0], []⟩ 8 (by kernel_rfl) (by kernel_rfl) (by kernel_rfl) (by kernel_rfl)) ?_
  · intro ds hd
    match ds, hd with
    | [d0, d1, d2], _ => rfl
  · intro W base args ds p hval hA
    obtain ⟨v0, vs0, d0, ds0, p0, q0, hargs, rfl, rfl, h0, r0⟩ := trodAll_cons hA
    obtain ⟨v1, vs1, d1, ds1, p1, q1, rfl, rfl, rfl, h1, r1⟩ := trodAll_cons r0
    obtain ⟨v2, vs2, d2, ds2, p2, q2, rfl, rfl, rfl, h2, r2⟩ := trodAll_cons r1
    obtain ⟨rfl, rfl, rfl⟩ := trodAll_nil r2
    obtain rfl : args = #[v0, v1, v2] := by cases args; simp_all
    obtain ⟨a, zs, n, cap, rfl, hV⟩ := open_u64s _ Try.underlying54 (hval 0 54 v0 rfl rfl) h0
    obtain ⟨z, rfl, rfl, rfl, wz⟩ := open_int Try.underlying3 (hval 1 3 v1 rfl rfl) h1
    obtain ⟨b, keep, n1, cap1, rfl, hK⟩ := open_i64s (hval 2 33 v2 rfl rfl) h2
    exact walk W a zs n cap z b keep n1 cap1 hV wz hK

theorem over : Rows.nvmFencedRow.holds Try.pinned (OpenSpec.ofChange Rows.nvmFencedSpec) :=
  OpenClaim.holds_of_wide 5 Try.f5 rfl rfl rfl rfl rfl rfl rfl ⟨rfl, rfl, rfl, rfl, rfl⟩ rfl rfl rfl rfl rfl (by kernel_rfl) Try.func5 (by kernel_rfl)
    (of_decide_eq_true (by kernel_rfl)) (by unfold Func.isWrapper; first | (rw [if_pos (by decide +kernel)]; kernel_rfl) | (rw [if_neg (by decide +kernel)]; exact ⟨rfl, rfl⟩))
    (fun os started H enc _ => lifted os started H enc)

end Go.Proofs.Ytkbafneoffcecaa.nvmFenced
namespace Go.Proofs.Ytkbafneoffcecaa
theorem nvmFenced_holds : Rows.NvmFencedSaid := nvmFenced.over
end Go.Proofs.Ytkbafneoffcecaa
