
/-
  For every two records, RlogApart returns true and leaves its argument as it was: two records have the same line only if they are the same. No condition.
-/
import Derived.Test.YtjidekjeibdbgabPkScan
import Derived.Test.YtjidekjeibdbgabRows
import Derived.Deep.RegionHeld3
import Derived.Deep.MidRow
import Derived.Deep.Cut
namespace Go.Proofs.Ytjidekjeibdbgab.rlogApart
open Go.ChangeShapes Go.WideShapes Go.ChangeAt Go.RowKit Go.Joins
set_option linter.unusedVariables false
set_option linter.unusedSimpArgs false
set_option maxRecDepth 100000

/-- Two records, one behind the other. -/
def rv2 (s t : Rc) : Array Value := #[.int .i64 s.q, .int .i64 s.d, .int .i64 s.o, .int .u64 s.v, .int .i64 t.q, .int .i64 t.d, .int .i64 t.o, .int .u64 t.v]
theorem fit_two : ∀ (vs : List Value), AllFit [some .i64, some .i64, some .i64, some .u64, some .i64, some .i64, some .i64, some .u64] vs → ∃ s t : Rc, vs = (rv2 s t).toList ∧ IsRec s ∧ IsRec t := fun vs h => by
  have hl := allFit_length _ h
  match vs, hl, h with
  | [a, b, c, d, e, f, g, i], _, h =>
    obtain ⟨⟨x, rfl, w1⟩, ⟨y, rfl, w2⟩, ⟨z, rfl, w3⟩, ⟨u, rfl, w4⟩, ⟨x', rfl, v1⟩, ⟨y', rfl, v2⟩, ⟨z', rfl, v3⟩, ⟨u', rfl, v4⟩, -⟩ := h
    exact ⟨⟨x, y, z, u⟩, ⟨x', y', z', u'⟩, rfl, ⟨w1, w2, w3, w4⟩, ⟨v1, v2, v3, v4⟩⟩
theorem open_twoR {H : Type} {enc : TypeId × Value → H} {W : World} {r : Reach} {b0 base : Nat} {sp : Nat → Bool} {hd : Bool} {v : Value} {d : DataW H} {p : List MemPlace}
    (hv : Value.okWide Try.prog W r b0 38 v) (h : DataW.Trod enc Try.prog W base sp hd 38 v d p) : ∃ s t : Rc, v = .agg (rv2 s t) ∧ IsRec s ∧ IsRec t := by
  obtain ⟨cs, rfl, hfit⟩ := flat_open 4 (ks := [some .i64, some .i64, some .i64, some .u64, some .i64, some .i64, some .i64, some .u64]) (by kernel_rfl) (Or.inr ⟨_, _, Try.underlying38⟩) hv h
  obtain ⟨s, t, hx, hw⟩ := fit_two cs.toList hfit
  refine ⟨s, t, ?_, hw⟩
  congr 1
  rw [← Array.toArray_toList (xs := cs), hx]
theorem two_firstR {w : World} {g : Nat} {s t : Rc} {T : TypeId} (h : w.heap[g]? = some (.cells (rv2 s t) T (0, 0))) : w.rangeAt g 0 (rv s).toList := fun j v hj => by
  rw [cell_of_block h, Nat.zero_add]
  match j, hj with
  | 0, hj | 1, hj | 2, hj | 3, hj => exact hj
  | n + 4, hj => simp [rv] at hj
theorem two_secondR {w : World} {g : Nat} {s t : Rc} {T : TypeId} (h : w.heap[g]? = some (.cells (rv2 s t) T (0, 0))) : w.rangeAt g 4 (rv t).toList := fun j v hj => by
  rw [cell_of_block h]
  match j, hj with
  | 0, hj | 1, hj | 2, hj | 3, hj => exact hj
  | n + 4, hj => simp [rv] at hj
set_option maxHeartbeats 4000000 in
theorem walk (W : World) (s t : Rc) (hst : IsRec s ∧ IsRec t) : Calls Try.prog 4 #[.agg (rv2 s t)] W fun e W' => e = .returned (.bool true) ∧ Below W.heap.size W W' := by
  obtain ⟨hs, ht⟩ := hst
  have ss : (Try.prog.info? 24).map (·.size) = some (rv s).toList.length := size4R
  have st : (Try.prog.info? 24).map (·.size) = some (rv t).toList.length := size4R
  have C1 : Hid (∀ w, Calls Try.prog 6 #[.agg (rv s).toList.toArray] w fun e w' => e = .returned (.tuple #[.agg (iv .u64 (lineRV s)), .int .i64 (lineRE s)]) ∧ Below w.heap.size w w') := lineR_any s (isRec_ok hs)
  have C2 : Hid (∀ w, Calls Try.prog 6 #[.agg (rv t).toList.toArray] w fun e w' => e = .returned (.tuple #[.agg (iv .u64 (lineRV t)), .int .i64 (lineRE t)]) ∧ Below w.heap.size w w') := lineR_any t (isRec_ok ht)
  have nX := iv_new .u64 (lineRV s) 8 (lineRV_len _) 27
  have zX : (iv .u64 (lineRV s)).size = 8 := by rw [iv_size, lineRV_len]
  have nY := iv_new .u64 (lineRV t) 8 (lineRV_len _) 27
  have zY : (iv .u64 (lineRV t)).size = 8 := by rw [iv_size, lineRV_len]
  clear hs ht
  cases hm : mayR s with
  | false =>
    rw [show lineRE s = 1 by simp [lineRE, hm]] at C1
    generalize lineRE t = E2 at *
    clear hm
    generalize iv .u64 (lineRV s) = X at *
    generalize iv .u64 (lineRV t) = Y at *
    have O0 := hide ((Own.start W).alloc (.cells (rv2 s t) 38))
    go_enter Try.func4, Try.ntmps4
    go_wp2_with fail
    refine (shown6_any _).mono ?_
    rintro e w1 ⟨rfl, hk⟩
    have O1 := hide ((unhide O0).call hk.asBelow)
    clear hk O0
    have KR := hide (two_firstR ((unhide O1).at W.heap.size (.cells (rv2 s t) 38) (by simp)))
    go_wp2_with (refine wpList_load_mid rfl 24 _ rfl W.heap.size 0 rfl _ _ (unhide KR) Try.underlying24 rfl ss ?_)
    refine (unhide C1 _).mono ?_
    rintro e w2 ⟨rfl, hb⟩
    have O2 := hide (((unhide O1).call hb).alloc (.cells X 27))
    clear hb O1 KR
    have KR := hide (two_secondR ((unhide O2).at W.heap.size (.cells (rv2 s t) 38) (by simp)))
    go_wp2_with (refine wpList_load_mid rfl 24 _ rfl W.heap.size 4 rfl _ _ (unhide KR) Try.underlying24 rfl st ?_)
    refine (unhide C2 _).mono ?_
    rintro e w3 ⟨rfl, hb⟩
    have O3 := hide (((unhide O2).call hb).alloc (.cells Y 27))
    clear hb O2 KR
    go_wp2_with fail
    go_ret
    exact ⟨rfl, (unhide O3).below⟩
  | true =>
    cases hn : mayR t with
    | false =>
      rw [show lineRE s = 0 by simp [lineRE, hm]] at C1
      rw [show lineRE t = 1 by simp [lineRE, hn]] at C2
      clear hn
      clear hm
      generalize iv .u64 (lineRV s) = X at *
      generalize iv .u64 (lineRV t) = Y at *
      have O0 := hide ((Own.start W).alloc (.cells (rv2 s t) 38))
      go_enter Try.func4, Try.ntmps4
      go_wp2_with fail
      refine (shown6_any _).mono ?_
      rintro e w1 ⟨rfl, hk⟩
      have O1 := hide ((unhide O0).call hk.asBelow)
      clear hk O0
      have KR := hide (two_firstR ((unhide O1).at W.heap.size (.cells (rv2 s t) 38) (by simp)))
      go_wp2_with (refine wpList_load_mid rfl 24 _ rfl W.heap.size 0 rfl _ _ (unhide KR) Try.underlying24 rfl ss ?_)
      refine (unhide C1 _).mono ?_
      rintro e w2 ⟨rfl, hb⟩
      have O2 := hide (((unhide O1).call hb).alloc (.cells X 27))
      clear hb O1 KR
      have KR := hide (two_secondR ((unhide O2).at W.heap.size (.cells (rv2 s t) 38) (by simp)))
      go_wp2_with (refine wpList_load_mid rfl 24 _ rfl W.heap.size 4 rfl _ _ (unhide KR) Try.underlying24 rfl st ?_)
      refine (unhide C2 _).mono ?_
      rintro e w3 ⟨rfl, hb⟩
      have O3 := hide (((unhide O2).call hb).alloc (.cells Y 27))
      clear hb O2 KR
      go_wp2_with fail
      go_ret
      exact ⟨rfl, (unhide O3).below⟩
    | true =>
      rw [show lineRE s = 0 by simp [lineRE, hm]] at C1
      rw [show lineRE t = 0 by simp [lineRE, hn]] at C2
      have sX := infoLR (lineRV_len s)
      have sY := infoLR (lineRV_len t)
      have EX : Hid (∀ w, (Op.equalIn 10000 27 (.agg (iv .u64 (lineRV s))) (.agg (iv .u64 (lineRV t)))).run Try.prog w = .ok (decide (s = t)) w) := fun w => by rw [equal_line _ _ (lineRV_len s) (lineRV_len t), lineRV_may s hm, lineRV_may t hn, same_lineR s t hm hn]
      have ES : Hid (∀ w, (Op.equalIn 10000 24 (.agg (rv s)) (.agg (rv t))).run Try.prog w = .ok (decide (s = t)) w) := fun w => equal_rec s t w
      clear hm hn
      generalize iv .u64 (lineRV s) = X at *
      generalize iv .u64 (lineRV t) = Y at *
      have O0 := hide ((Own.start W).alloc (.cells (rv2 s t) 38))
      go_enter Try.func4, Try.ntmps4
      go_wp2_with fail
      refine (shown6_any _).mono ?_
      rintro e w1 ⟨rfl, hk⟩
      have O1 := hide ((unhide O0).call hk.asBelow)
      clear hk O0
      have KR := hide (two_firstR ((unhide O1).at W.heap.size (.cells (rv2 s t) 38) (by simp)))
      go_wp2_with (refine wpList_load_mid rfl 24 _ rfl W.heap.size 0 rfl _ _ (unhide KR) Try.underlying24 rfl ss ?_)
      refine (unhide C1 _).mono ?_
      rintro e w2 ⟨rfl, hb⟩
      have O2 := hide (((unhide O1).call hb).alloc (.cells X 27))
      clear hb O1 KR
      have KR := hide (two_secondR ((unhide O2).at W.heap.size (.cells (rv2 s t) 38) (by simp)))
      go_wp2_with (refine wpList_load_mid rfl 24 _ rfl W.heap.size 4 rfl _ _ (unhide KR) Try.underlying24 rfl st ?_)
      refine (unhide C2 _).mono ?_
      rintro e w3 ⟨rfl, hb⟩
      have O3 := hide (((unhide O2).call hb).alloc (.cells Y 27))
      clear hb O2 KR
      go_upto_region 6 with fail
      clear nX nY
      have O8 := hide ((unhide O3).drew)
      clear O3
      generalize w3.alloc (.cells Y 27) = Z at *
      generalize hZ : Z.drew = Y0 at O8
      have HZ := hide hZ
      clear hZ
      have R8 : Hid (Y0.rangeAt w2.heap.size 0 X.toList) := fun j v hv => by
        rw [cell_of_block ((unhide O8).at w2.heap.size (.cells X 27) (by simp)), Nat.zero_add]; simpa using hv
      have R10 : Hid (Y0.rangeAt w3.heap.size 0 Y.toList) := fun j v hv => by
        rw [cell_of_block ((unhide O8).at w3.heap.size (.cells Y 27) (by simp)), Nat.zero_add]; simpa using hv
      have RS := hide (two_firstR ((unhide O8).at W.heap.size (.cells (rv2 s t) 38) (by simp)))
      have RT := hide (two_secondR ((unhide O8).at W.heap.size (.cells (rv2 s t) 38) (by simp)))
      have HBl := hide (unhide O8).below
      have hjX : (Try.prog.info? 27).map (·.size) = some X.toList.length := by rw [Array.length_toList]; exact sX
      have hjY : (Try.prog.info? 27).map (·.size) = some Y.toList.length := by rw [Array.length_toList]; exact sY
      have EX2 : Hid (∀ w, (Op.equalIn 10000 27 (.agg X.toList.toArray) (.agg Y.toList.toArray)).run Try.prog w = .ok (decide (s = t)) w) := fun w => by rw [Array.toArray_toList, Array.toArray_toList]; exact unhide EX w
      have ES2 : Hid (∀ w, (Op.equalIn 10000 24 (.agg (rv s).toList.toArray) (.agg (rv t).toList.toArray)).run Try.prog w = .ok (decide (s = t)) w) := fun w => by rw [Array.toArray_toList, Array.toArray_toList]; exact unhide ES w
      generalize decide (s = t) = dd at *
      clear EX ES O8 C1 C2
      refine wp_region_noPanic ?_
      refine wp_region_held_drew (S := fun w' => w'.rangeAt w2.heap.size 0 X.toList ∧ w'.rangeAt w3.heap.size 0 Y.toList ∧ w'.rangeAt W.heap.size 0 (rv s).toList ∧ w'.rangeAt W.heap.size 4 (rv t).toList) (by kernel_rfl) (by rw [unhide HZ]; exact ⟨unhide R8, unhide R10, unhide RS, unhide RT⟩) (fun hHeld => ?_)
      rw [unhide HZ] at hHeld ⊢
      clear HZ R8 R10 RS RT
      refine take_at 0 28 (v := ?_) rfl rfl (by kernel_rfl) (by kernel_rfl) (by kernel_rfl) (Or.inl ⟨by rfl, ?_⟩) hHeld ?_
      rotate_left
      · intro w hSw; go_simp; with_reducible rfl
      simp only [Act.put, List.setIfInBounds_toArray, List.set_cons_zero, List.set_cons_succ]
      refine take_at 1 29 (v := ?_) rfl rfl (by kernel_rfl) (by kernel_rfl) (by kernel_rfl) (Or.inl ⟨by rfl, ?_⟩) hHeld ?_
      rotate_left
      · intro w hSw; go_simp; with_reducible rfl
      simp only [Act.put, List.setIfInBounds_toArray, List.set_cons_zero, List.set_cons_succ]
      refine take_at 2 30 rfl rfl (by kernel_rfl) (by kernel_rfl) (by kernel_rfl) (yieldsIf_load_mid (by rfl) 27 _ rfl w2.heap.size 0 rfl X.toList _ (fun w h => h.1) Try.underlying27 rfl hjX) hHeld ?_
      simp only [Act.put, List.setIfInBounds_toArray, List.set_cons_zero, List.set_cons_succ]
      refine take_at 3 31 rfl rfl (by kernel_rfl) (by kernel_rfl) (by kernel_rfl) (yieldsIf_load_mid (by rfl) 27 _ rfl w3.heap.size 0 rfl Y.toList _ (fun w h => h.2.1) Try.underlying27 rfl hjY) hHeld ?_
      simp only [Act.put, List.setIfInBounds_toArray, List.set_cons_zero, List.set_cons_succ]
      refine take_at 4 32 rfl rfl (by kernel_rfl) (by kernel_rfl) (by kernel_rfl) (yieldsIf_eql (by rfl) 27 27 _ _ rfl X.toList.toArray Y.toList.toArray rfl rfl line_guard2 dd (unhide EX2)) hHeld ?_
      simp only [Act.put, List.setIfInBounds_toArray, List.set_cons_zero, List.set_cons_succ]
      refine take_at 5 33 (v := ?_) rfl rfl (by kernel_rfl) (by kernel_rfl) (by kernel_rfl) (Or.inl ⟨by rfl, ?_⟩) hHeld ?_
      rotate_left
      · intro w hSw; go_simp; with_reducible rfl
      simp only [Act.put, List.setIfInBounds_toArray, List.set_cons_zero, List.set_cons_succ]
      refine take_at 6 34 rfl rfl (by kernel_rfl) (by kernel_rfl) (by kernel_rfl) (yieldsIf_load_mid (by rfl) 24 _ rfl W.heap.size 0 rfl (rv s).toList _ (fun w h => h.2.2.1) Try.underlying24 rfl ss) hHeld ?_
      simp only [Act.put, List.setIfInBounds_toArray, List.set_cons_zero, List.set_cons_succ]
      refine take_at 7 35 (v := ?_) rfl rfl (by kernel_rfl) (by kernel_rfl) (by kernel_rfl) (Or.inl ⟨by rfl, ?_⟩) hHeld ?_
      rotate_left
      · intro w hSw; go_simp; with_reducible rfl
      simp only [Act.put, List.setIfInBounds_toArray, List.set_cons_zero, List.set_cons_succ]
      refine take_at 8 36 rfl rfl (by kernel_rfl) (by kernel_rfl) (by kernel_rfl) (yieldsIf_load_mid (by rfl) 24 _ rfl W.heap.size 4 rfl (rv t).toList _ (fun w h => h.2.2.2) Try.underlying24 rfl st) hHeld ?_
      simp only [Act.put, List.setIfInBounds_toArray, List.set_cons_zero, List.set_cons_succ]
      refine take_at 9 37 rfl rfl (by kernel_rfl) (by kernel_rfl) (by kernel_rfl) (yieldsIf_eql (by rfl) 24 24 _ _ rfl (rv s).toList.toArray (rv t).toList.toArray rfl rfl rec_guard dd (unhide ES2)) hHeld ?_
      simp only [Act.put, List.setIfInBounds_toArray, List.set_cons_zero, List.set_cons_succ]
      refine take_at 10 38 (v := ?_) rfl rfl (by kernel_rfl) (by kernel_rfl) (by kernel_rfl) (Or.inl ⟨by rfl, ?_⟩) hHeld ?_
      rotate_left
      · intro w hSw; go_simp; with_reducible rfl
      simp only [Act.put, List.setIfInBounds_toArray, List.set_cons_zero, List.set_cons_succ]
      refine take_at 11 39 (v := ?_) rfl rfl (by kernel_rfl) (by kernel_rfl) (by kernel_rfl) (Or.inl ⟨by rfl, ?_⟩) hHeld ?_
      rotate_left
      · intro w hSw; go_simp; with_reducible rfl
      simp only [Act.put, List.setIfInBounds_toArray, List.set_cons_zero, List.set_cons_succ]
      refine take_at 12 2 (v := ?_) rfl rfl (by kernel_rfl) (by kernel_rfl) (by kernel_rfl) (Or.inl ⟨by rfl, ?_⟩) hHeld ?_
      rotate_left
      · intro w hSw; go_simp; with_reducible rfl
      simp only [Act.put, List.setIfInBounds_toArray, List.set_cons_zero, List.set_cons_succ]
      refine wpAnyH_done (by kernel_rfl) ?_ _
      refine NoPanic.normal ?_
      go_wp2_with fail
      go_ret
      exact ⟨rfl, unhide HBl⟩

set_option maxRecDepth 100000 in
theorem lifted (os : Os) (started : os.Started) (H : Type) (enc : TypeId × Value → H) :
    ReturnsInHanded {} Try.checked os 4 .any (Rows.rlogApartSpec.pre6 enc Try.prog Try.f4 Rows.rlogApartRow.domain false) (Rows.rlogApartSpec.post enc Try.prog Try.f4 false true false false) := by
  refine law_frame (C := Try.checked) (ts := [38]) (tb := 4) (by kernel_rfl) started (by kernel_rfl) Try.func4 Try.params4 (by kernel_rfl) Try.underlying4 (by kernel_rfl) (by kernel_rfl) rfl ?_
    (ChangeSpec.witness6 (enc := enc) (C := Try.checked) false ⟨#[], #[.agg (rv2 zr zr)], []⟩ 8 (by kernel_rfl) (by kernel_rfl) (by kernel_rfl) (by kernel_rfl)) ?_
  · intro ds hd
    match ds, hd with
    | [d0], _ => rfl
  · intro W base args ds p hval hA
    obtain ⟨v0, vs0, d0, ds0, p0, q0, hargs, rfl, rfl, h0, r0⟩ := trodAll_cons hA
    obtain ⟨rfl, rfl, rfl⟩ := trodAll_nil r0
    obtain rfl : args = #[v0] := by cases args; simp_all
    obtain ⟨s, t, rfl, hst⟩ := open_twoR (hval 0 38 v0 rfl rfl) h0
    exact walk W s t hst

theorem over : Rows.rlogApartRow.holds Try.pinned (OpenSpec.ofChange Rows.rlogApartSpec) :=
  OpenClaim.holds_of_wide 4 Try.f4 rfl rfl rfl rfl rfl rfl rfl ⟨rfl, rfl, rfl, rfl, rfl⟩ rfl rfl rfl rfl rfl (by kernel_rfl) Try.func4 (by kernel_rfl)
    (of_decide_eq_true (by kernel_rfl)) (by unfold Func.isWrapper; first | (rw [if_pos (by decide +kernel)]; kernel_rfl) | (rw [if_neg (by decide +kernel)]; exact ⟨rfl, rfl⟩))
    (fun os started H enc _ => lifted os started H enc)

end Go.Proofs.Ytjidekjeibdbgab.rlogApart
namespace Go.Proofs.Ytjidekjeibdbgab
theorem rlogApart_holds : Rows.RlogApartSaid := rlogApart.over
end Go.Proofs.Ytjidekjeibdbgab
