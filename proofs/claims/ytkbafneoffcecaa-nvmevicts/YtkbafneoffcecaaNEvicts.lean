/-
  For every row of values and every number, NvmEvicts returns true and leaves its arguments as they were: what was evicted is sure, whichever stores these were, and the others are not. No condition.
-/
import Derived.Test.YtkbafneoffcecaaNTotal
import Derived.Test.YtkbafneoffcecaaLaw
import Derived.Test.YtkbafneoffcecaaRows
namespace Go.Proofs.Ytkbafneoffcecaa.nvmEvicts
open Go.ChangeShapes Go.WideShapes Go.ChangeAt Go.RowKit Go.Joins
set_option linter.unusedVariables false
set_option linter.unusedSimpArgs false

def stL (zs : List Int) (i : Nat) : List (Nat × Int) := (List.range i).map fun j => (j % 8, zs.getD j 0)
theorem stL_next (zs : List Int) (i : Nat) : stL zs (i + 1) = stL zs i ++ [(i % 8, zs.getD i 0)] := by simp [stL, List.range_succ]
theorem stL_len (zs : List Int) (i : Nat) : (stL zs i).length = i := by simp [stL]
theorem stL_take (zs : List Int) (i m : Nat) (h : m ≤ i) : (stL zs i).take m = stL zs m := by
  unfold stL
  rw [← List.map_take, List.take_range, Nat.min_eq_left h]
def wantF (zs : List Int) (i : Nat) : Nat → Int := runS (stL zs i) fun _ => 0
theorem wantF_next (zs : List Int) (i : Nat) : wantF zs (i + 1) = upd (wantF zs i) (i % 8) (zs.getD i 0) := by unfold wantF; rw [stL_next, runS_snoc]
structure Inv (zs : List Int) (i : Nat) (A : Mm) : Prop where
  ok : A.ok i
  n : A.n = 64
  on : A.on = true
  fuse : A.fuse = -1
  l : A.l 5 = ⟨fun _ => 0, stL zs i, fun _ => 0⟩
theorem Inv.may {zs : List Int} {i : Nat} {A : Mm} (h : Inv zs i A) : A.may = true := by simp [Mm.may, h.on, h.fuse]
theorem Inv.store {zs : List Int} {i : Nat} {A : Mm} (h : Inv zs i A) (hx : InU (zs.getD i 0)) : Inv zs (i + 1) (A.store 5 (i % 8) (zs.getD i 0)) := by
  have hok := ok_store h.ok 5 (i % 8) (zs.getD i 0) (Nat.mod_lt _ (by decide)) hx
  have e : A.store 5 (i % 8) (zs.getD i 0) = A.stepped (upd A.l 5 ((A.l 5).store (i % 8) (zs.getD i 0))) := by unfold Mm.store Mm.step; rw [h.may]; rfl
  rw [e] at hok ⊢
  refine ⟨hok, h.n, h.on, by simp [Mm.stepped, h.fuse], ?_⟩
  show upd A.l 5 _ 5 = _
  rw [upd_same, h.l, stL_next]; rfl
theorem Inv.ends {zs : List Int} {i : Nat} {A : Mm} (h : Inv zs i A) (k : Nat) : (((A.evict 5 k).crash []).l 5).has = wantF zs (min i k) := by
  show (((A.evict 5 k).l 5).settle 0).lose.has = _
  rw [Ln.settle_zero, Ln.lose_has]
  show (upd A.l 5 ((A.l 5).settle (min k (A.l 5).t.length)) 5).s = _
  rw [upd_same, h.l]
  show runS ((stL zs i).take (min k (stL zs i).length)) _ = _
  rw [stL_len, stL_take _ _ _ (Nat.min_le_right _ _), Nat.min_comm]; rfl
def a0 : Mm := Mm.new 64 fun _ _ => 0
theorem inv0 (zs : List Int) : Inv zs 0 a0 := ⟨ok_new (by decide) (by decide) (fun _ _ => ⟨by decide, by decide⟩), rfl, rfl, rfl, rfl⟩

set_option maxRecDepth 100000 in
set_option maxHeartbeats 4000000 in
theorem walk (W : World) (a : Option Addr) (zs : List Int) (n cap : Nat) (z : Int) (hV : IsRow W .u64 a zs n cap) (wz : (Lit.int .i64 z).wf = true) :
    Calls Try.prog 7 #[.slice a n cap, .int .i64 z] W fun e W' => e = .returned (.bool true) ∧ Below W.heap.size W W' := by
  have hz : In64 z := in64_wf wz
  obtain ⟨v1, v2, v3, v4, v5⟩ := hV
  have V1 := hide v1
  have V2 := hide v2
  have V3 : Hid (∀ i, i < n → InU (zs.getD i 0)) := fun i hi => inU_wf (v3 _ (by rw [List.getD_eq_getElem?_getD, List.getElem?_eq_getElem (by omega)]; simp))
  clear v1 v2 v3 wz
  obtain ⟨k, hk⟩ : ∃ k, k = kindN z 25 := ⟨_, rfl⟩
  have hk25 : k < 25 := by rw [hk]; exact kindN_lt _ _ (by decide)
  have CK : Hid (∀ w, Calls Try.prog 12 #[.int .i64 z, .int .i64 25] w fun e w' => e = .returned (.int .i64 (k : Int)) ∧ w' = w) := fun w => by rw [hk]; exact kind_any z hz 25 (by decide) (by decide) w
  clear hk hz
  obtain ⟨m, hm⟩ : ∃ m, m = min n 20 := ⟨_, rfl⟩
  have hmn : m ≤ n := by omega
  have hm20 : m ≤ 20 := by omega
  go_enter Try.func7, Try.ntmps7
  go_wp2_with fail
  refine (shown_any W).mono ?_
  rintro e w0 ⟨rfl, hk0⟩
  go_wp2_with fail
  refine (new_any w0 64 (by decide) (by decide)).mono ?_
  intro e w1 hmm
  obtain ⟨p, rfl, h0, -⟩ := made_has W hk0 hmm (fun _ => False) (fun _ h => h.elim)
  have H0 : Hid (Has W w1 (fun _ => False) p a0) := h0
  clear hmm h0 hk0
  have hmin : ∀ (w : World) (ts : Array TypeId) (t : TypeId), (Builtin.min_ ts t #[.int .i64 (n : Int), .int .i64 20]).run Try.prog w = .ok (.int .i64 (m : Int)) w := fun w ts t => by
    rw [run_min_int2]
    congr 2
    split <;> omega
  clear hm
  go_wp2_with fail
  refine (unhide CK _).mono ?_
  rintro e w1 ⟨rfl, rfl⟩
  clear CK hmin
  have hst := store_line fun _ => 0
  have hsz := lnV_size fun _ => 0
  go_upto_region 8 with (refine wpList_build0 rfl 50 rfl _ line_zero ?_)
  clear hst hsz
  have HL := hide (heap_new w1 (.cells (lnV fun _ => 0) 50))
  have H1 := hide ((unhide H0).alloc (.cells (lnV fun _ => 0) 50))
  have HWL : Hid (W.heap.size ≤ w1.heap.size) := (unhide H0).keeps.size
  obtain ⟨L, hL⟩ : ∃ L, L = w1.heap.size := ⟨_, rfl⟩
  rw [← hL] at HL H1 HWL ⊢
  have H2 : Hid (Has W (w1.alloc (.cells (lnV fun _ => 0) 50)) (fun k => k = L) p a0) := (unhide H1).less (fun _ h => Or.inr h)
  clear hL H0 H1
  generalize w1.alloc (.cells (lnV fun _ => 0) 50) = V at *
  go_wp2_with fail
  go_loopw [11] (fun i wr => ∃ j : Nat, j ≤ m ∧ i = .int .i64 j ∧ ∃ A, Has W wr (fun k => k = L) p A ∧ Inv zs j A ∧ wr.heap[L]? = some (.cells (lnV (wantF zs (min j k))) 50 (0, 0))) (fun i _ => m - (intOf i).toNat)
  case atStart => exact ⟨0, by omega, rfl, a0, unhide H2, inv0 zs, by rw [Nat.zero_min]; exact unhide HL⟩
  case round =>
    clear HL H2
    obtain ⟨j, hj, rfl, A, hA, inv, hw⟩ := hrel
    have HA := hide hA
    have HWB := hide hw
    clear hA hw
    by_cases hlt : j < m
    · obtain ⟨x, off, rfl, hx⟩ : ∃ b off, a = some ⟨b, off, none⟩ ∧ ∀ i, i < zs.length → W.cell? ⟨b, off + i, none⟩ = some (.int .u64 (zs.getD i 0)) := by
        rcases unhide V2 with h | h
        · have := unhide V1; rw [h] at this; simp at this; omega
        · exact h
      have cx : wr.cell? ⟨x, off + j, none⟩ = some (.int .u64 (zs.getD j 0)) := (unhide HA).keeps.cellOf (hx j (by have := unhide V1; omega)) id
      have hu := unhide V3 j (by omega)
      have inv1 := inv.store hu
      have HN := hide (wantF_next zs j)
      have hjn : (j : Int) < (n : Int) := by omega
      have hjm : (j : Int) < (m : Int) := by omega
      obtain ⟨y, hy⟩ : ∃ y, y = zs.getD j 0 := ⟨_, rfl⟩
      rw [← hy] at cx inv1 HN hu
      have CX2 : Hid (∀ w' : World, Keeps (fun _ => False) W w' → w'.cell? ⟨x, off + j, none⟩ = some (.int .u64 y)) := fun w' hw' => by rw [hy]; exact hw'.cellOf (hx j (by have := unhide V1; omega)) id
      clear hx hy
      have cx2 : ∀ w' : World, Keeps (fun _ => False) W w' → w'.cell? ⟨x, off + j, none⟩ = some (.int .u64 y) := unhide CX2
      have HCX := hide cx2
      clear cx2 CX2
      go_wp2_with fail
      refine ((unhide HA).store (ok_mono inv.ok (by omega)) 5 ((j : Int) % 8) 5 (j % 8) rfl (by omega) (by rw [inv.n]; decide) (Nat.mod_lt _ (by decide)) y).mono ?_
      rintro e w2 ⟨rfl, h2, hs2⟩
      have H2 := hide h2
      have HW2 : Hid (w2.heap[L]? = some (.cells (lnV (wantF zs (min j k))) 50 (0, 0))) := (hs2 L rfl).trans (unhide HWB)
      have c2 := unhide HCX w2 (unhide H2).keeps
      obtain ⟨A1, hA1⟩ : ∃ A1, A1 = A.store 5 (j % 8) y := ⟨_, rfl⟩
      rw [← hA1] at H2 inv1
      clear h2 hs2 HA HWB hA1 inv cx HCX
      by_cases hjk : j < k
      · have hjk' : (j : Int) < (k : Int) := by omega
        have hm1 : min j k = j := by omega
        rw [hm1] at HW2
        have q8 : j % 8 < 8 := Nat.mod_lt _ (by decide)
        have d1 : w2.cell? ⟨L, j % 8, none⟩ = some (.int .u64 (wantF zs j (j % 8))) := by rw [cell_of_block (unhide HW2)]; exact tab_get _ _ _ q8
        have d2 : w2.frozen? ⟨L, j % 8, none⟩ = false := unfrozen_of_block (unhide HW2) _
        generalize wantF zs j (j % 8) = old at *
        have e0 : (0 : Int) ≤ (j : Int) % 8 := by omega
        have e8 : (j : Int) % 8 < 8 := by omega
        have et : ((j : Int) % 8).toNat = j % 8 := by omega
        go_wp2_with fail
        go_roundw
        case rel =>
          refine ⟨j + 1, by omega, by go_num, A1, (unhide H2).own rfl (unhide HWL) (Keeps.setCell (F := (· = L)) (p := ⟨L, j % 8, none⟩) (Keeps.refl _ _) rfl _), inv1, ?_⟩
          rw [show min (j + 1) k = j + 1 by omega, unhide HN]
          have := Blk.set (w := w2) (c := L) (N := 8) (T := 50) (f := fun i => .int .u64 (wantF zs j i)) (unhide HW2) (j % 8) (.int .u64 y)
          refine (Blk.ext this fun i hi => ?_ : Blk _ L 8 50 (fun i => .int .u64 (upd (wantF zs j) (j % 8) y i)))
          unfold upd; split <;> rfl
        case measure => simp [intOf]; omega
      · have hjk' : ¬ ((j : Int) < (k : Int)) := by omega
        go_wp2_with fail
        go_roundw
        case rel => exact ⟨j + 1, by omega, by go_num, A1, unhide H2, inv1, by rw [show min (j + 1) k = min j k by omega]; exact unhide HW2⟩
        case measure => simp [intOf]; omega
    · obtain rfl : j = m := by omega
      clear hj hlt
      go_wp2_with fail
      refine ((unhide HA).steps).mono ?_
      rintro e w2 ⟨rfl, rfl⟩
      go_wp2_with fail
      refine ((unhide HA).evict (ok_mono inv.ok (by omega)) 5 k 5 k rfl rfl (by rw [inv.n]; decide) inv.on).mono ?_
      rintro e w3 ⟨rfl, h3, hs3⟩
      have H3 := hide h3
      have HW3 : Hid (w3.heap[L]? = some (.cells (lnV (wantF zs (min j k))) 50 (0, 0))) := (hs3 L rfl).trans (unhide HWB)
      clear h3 hs3 HA HWB
      go_wp2_with fail
      refine ((unhide H3).crash_nil (ok_evict (ok_mono inv.ok (by omega)) _ _)).mono ?_
      rintro e w4 ⟨rfl, h4, hs4⟩
      have H4 := hide h4
      have HW4 : Hid (w4.heap[L]? = some (.cells (lnV (wantF zs (min j k))) 50 (0, 0))) := (hs4 L rfl).trans (unhide HW3)
      obtain ⟨D, hD⟩ : ∃ D, D = (A.evict 5 k).crash [] := ⟨_, rfl⟩
      have HDH : Hid ((D.l 5).has = wantF zs (min j k)) := by rw [hD]; exact inv.ends k
      have HDS : Hid (D.steps = A.steps) := by rw [hD]; rfl
      have HDO : Hid (D.on = true) := by rw [hD]; rfl
      have HDN : Hid (D.n = 64) := by rw [hD]; exact inv.n
      rw [← hD] at H4
      clear h4 hs4 H3 HW3 hD
      go_wp2_with fail
      refine ((unhide H4).load 5 5 rfl (by rw [unhide HDN]; decide) (unhide HDO) (by rw [unhide HDN]; decide)).mono ?_
      rintro e w5 ⟨rfl, h5, hs5⟩
      have H5 := hide h5
      have HW5 : Hid (w5.heap[L]? = some (.cells (lnV (wantF zs (min j k))) 50 (0, 0))) := (hs5 L rfl).trans (unhide HW4)
      rw [unhide HDH]
      obtain ⟨f, hf⟩ : ∃ f, f = wantF zs (min j k) := ⟨_, rfl⟩
      rw [← hf] at HW5 ⊢
      clear h5 hs5 H4 HW4 hf HDH
      have hst := store_line f
      have hsz := lnV_size f
      go_upto_region 18 with fail
      clear hst hsz
      have HM := hide (heap_new w5 (.cells (lnV f) 50))
      have H6 := hide ((unhide H5).alloc (.cells (lnV f) 50))
      have HW6 : Hid ((w5.alloc (.cells (lnV f) 50)).heap[L]? = some (.cells (lnV f) 50 (0, 0))) := (Below.heap_alloc w5 _ L ((unhide H5).lt L rfl)).trans (unhide HW5)
      obtain ⟨M, hM⟩ : ∃ M, M = w5.heap.size := ⟨_, rfl⟩
      rw [← hM] at HM H6 ⊢
      clear hM H5 HW5
      generalize w5.alloc (.cells (lnV f) 50) = Y at *
      have s8 : (Try.prog.info? 50).map (·.size) = some (lnV f).size := by rw [lnV_size]; exact lsize
      have HST : Hid (Calls Try.prog 20 #[.pointer (some ⟨p, 0, none⟩)] Y fun e w' => e = .returned (.int .i64 (A.steps : Int)) ∧ w' = Y) := by
        rw [← unhide HDS]; exact (unhide H6).steps
      go_wp2_with (first | (refine wpList_load_row_g (by rfl) 50 (.tmp 14) rfl M rfl _ _ _ _ (unhide HM) Try.underlying50 rfl s8 ?_) | (refine wpList_load_row_g (by rfl) 50 (.tmp 10) rfl L rfl _ _ _ _ (unhide HW6) Try.underlying50 rfl s8 ?_) | (refine wpList_eql (by rfl) (.tmp 75) (.tmp 76) rfl f f rfl rfl ?_; rw [eqL_refl]) | (go_at_call 20; refine (unhide HST).mono ?_; rintro e Y ⟨rfl, rfl⟩))
      go_ret
      exact ⟨rfl, (unhide H6).keeps.below (Nat.le_refl _) (fun _ h => h.elim)⟩

set_option maxRecDepth 100000 in
theorem lifted (os : Os) (started : os.Started) (H : Type) (enc : TypeId × Value → H) :
    ReturnsInHanded {} Try.checked os 7 .any (Rows.nvmEvictsSpec.pre6 enc Try.prog Try.f7 Rows.nvmEvictsRow.domain false) (Rows.nvmEvictsSpec.post enc Try.prog Try.f7 false true false false) := by
  refine law_frame (C := Try.checked) (ts := [54, 3]) (tb := 4) (by kernel_rfl) started (by kernel_rfl) Try.func7 Try.params7 (by kernel_rfl) Try.underlying4 (by kernel_rfl) (by kernel_rfl) rfl ?_
    (ChangeSpec.witness6 (enc := enc) (C := Try.checked) false ⟨#[], #[.slice none 0 0, .int .i64 0], []⟩ 8 (by kernel_rfl) (by kernel_rfl) (by kernel_rfl) (by kernel_rfl)) ?_
  · intro ds hd
    match ds, hd with
    | [d0, d1], _ => rfl
  · intro W base args ds p hval hA
    obtain ⟨v0, vs0, d0, ds0, p0, q0, hargs, rfl, rfl, h0, r0⟩ := trodAll_cons hA
    obtain ⟨v1, vs1, d1, ds1, p1, q1, rfl, rfl, rfl, h1, r1⟩ := trodAll_cons r0
    obtain ⟨rfl, rfl, rfl⟩ := trodAll_nil r1
    obtain rfl : args = #[v0, v1] := by cases args; simp_all
    obtain ⟨a, zs, n, cap, rfl, hV⟩ := open_u64s _ Try.underlying54 (hval 0 54 v0 rfl rfl) h0
    obtain ⟨z, rfl, rfl, rfl, wz⟩ := open_int Try.underlying3 (hval 1 3 v1 rfl rfl) h1
    exact walk W a zs n cap z hV wz

theorem over : Rows.nvmEvictsRow.holds Try.pinned (OpenSpec.ofChange Rows.nvmEvictsSpec) :=
  OpenClaim.holds_of_wide 7 Try.f7 rfl rfl rfl rfl rfl rfl rfl ⟨rfl, rfl, rfl, rfl, rfl⟩ rfl rfl rfl rfl rfl (by kernel_rfl) Try.func7 (by kernel_rfl)
    (of_decide_eq_true (by kernel_rfl)) (by unfold Func.isWrapper; first | (rw [if_pos (by decide +kernel)]; kernel_rfl) | (rw [if_neg (by decide +kernel)]; exact ⟨rfl, rfl⟩))
    (fun os started H enc _ => lifted os started H enc)

end Go.Proofs.Ytkbafneoffcecaa.nvmEvicts
namespace Go.Proofs.Ytkbafneoffcecaa
theorem nvmEvicts_holds : Rows.NvmEvictsSaid := nvmEvicts.over
end Go.Proofs.Ytkbafneoffcecaa
