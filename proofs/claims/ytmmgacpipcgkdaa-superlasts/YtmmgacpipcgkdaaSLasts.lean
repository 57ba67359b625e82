
/-
  For every two superblocks, whenever the power goes off and whatever is kept, SuperLasts returns true and leaves its arguments as they were: the first slot's superblock is found, or the second one's, if its generation is greater; and one that was written whole is found. No condition.
-/
import Derived.Test.YtmmgacpipcgkdaaPkEnd
import Derived.Test.YtmmgacpipcgkdaaSLastMath
import Derived.Test.YtmmgacpipcgkdaaRows
import Derived.Deep.Cut
namespace Go.Proofs.Ytmmgacpipcgkdaa.superLasts
open Go.ChangeShapes Go.WideShapes Go.ChangeAt Go.RowKit Go.Joins
set_option linter.unusedVariables false
set_option linter.unusedSimpArgs false

set_option maxHeartbeats 4000000 in
set_option maxRecDepth 100000 in
theorem walk (W : World) (s t : List Int) (z : Int) (a : Option Addr) (keep : List Int) (cap : Nat) (hst : IsSuper s ∧ IsSuper t) (hp : In64 z ∧ IntsAt W a keep ∧ (∀ z ∈ keep, In64 z) ∧ keep.length ≤ 9223372036854775807) :
    Calls Try.prog 7 #[.agg (iv .i64 (s ++ t)), .agg #[.int .i64 z, .slice a keep.length cap]] W fun e W' => e = .returned (.bool true) ∧ Below W.heap.size W W' := by
  obtain ⟨⟨hs, -⟩, ⟨ht, -⟩⟩ := hst
  obtain ⟨hz, hk1, hk2, hk3⟩ := hp
  have HS := hide hs
  have HT := hide ht
  have HK1 := hide hk1
  have HK2 := hide hk2
  have HK3 := hide hk3
  have ss := list4 hs
  have st := list4 ht
  have es : (iv .i64 s).toList.toArray = iv .i64 s := rfl
  have et : (iv .i64 t).toList.toArray = iv .i64 t := rfl
  have O0 := hide (((Own.start W).alloc (.cells (iv .i64 (s ++ t)) 40)).alloc (.cells #[.int .i64 z, .slice a keep.length cap] 43))
  have g1 : (W.alloc (.cells (iv .i64 (s ++ t)) 40)).heap.size = W.heap.size + 1 := by simp
  rw [g1] at O0
  have OKA : Hid ((Mm.new 64 fun _ _ => 0).ok 0) := ok_new (by decide) (by decide) (fun _ _ => ⟨by decide, by decide⟩)
  have LA := hide (lasts s t hs ht (Mm.new 64 fun _ _ => 0) rfl ((kindN z 20 : Nat) : Int) keep)
  clear hs ht hk1 hk2 hk3 g1
  go_enter Try.func7, Try.ntmps7
  go_wp2_with fail
  refine (shown_any _).mono ?_
  rintro e w1 ⟨rfl, hb⟩
  have O1 := hide ((unhide O0).call hb)
  clear hb O0
  go_wp2_with fail
  refine (new_any w1 64 (by decide) (by decide)).mono ?_
  intro e w2 hm
  obtain ⟨b, rfl, h2⟩ := held_made (unhide O1) (by simp) hm
  have O2 := hide h2
  clear hm h2 O1
  generalize (Mm.new 64 fun _ _ => 0) = A at *
  have KR := hide (two_first ((unhide O2).at W.heap.size (.cells (iv .i64 (s ++ t)) 40) (by simp)))
  go_wp2_with (refine wpList_load_mid rfl 23 _ rfl W.heap.size 0 rfl _ _ (unhide KR) Try.underlying23 rfl ss ?_)
  refine ((unhide O2).st.write (ok_mono (unhide OKA) (by decide)) 0 0 s (unhide HS)).mono ?_
  rintro e w3 ⟨rfl, h1, h2⟩
  have O3 := hide ((unhide O2).call (St' := fun w G => Has W w G b (A.writeZ 0 0 s)) h1 h2)
  have OK3 : Hid ((A.writeZ 0 0 s).ok 11) := ok_writeZ (unhide OKA) 0 0 s
  clear h1 h2 O2 KR OKA
  generalize A.writeZ 0 0 s = A3 at *
  generalize A.writeE 0 0 s = E3 at *
  by_cases he : E3 = 0
  · have LB := hide (unhide LA he)
    clear LA
    subst he
    have cz : w3.cell? ⟨W.heap.size + 1, 0, none⟩ = some (.int .i64 z) := by rw [cell_of_block ((unhide O3).at (W.heap.size + 1) (.cells #[.int .i64 z, .slice a keep.length cap] 43) (by simp))]; rfl
    go_wp2_with fail
    refine (skind_any z hz 20 (by decide) (by decide) _).mono ?_
    rintro e w3 ⟨rfl, rfl⟩
    have hzk : In64 ((kindN z 20 : Nat) : Int) := by have := kindN_lt z 20 (by decide); unfold In64; omega
    generalize ((kindN z 20 : Nat) : Int) = zk at *
    go_wp2_with fail
    refine ((unhide O3).st.fuse zk).mono ?_
    rintro e w4 ⟨rfl, h1, h2⟩
    have O4 := hide ((unhide O3).call (St' := fun w G => Has W w G b (A3.fused zk)) h1 h2)
    have OK4 : Hid ((A3.fused zk).ok 11) := ok_fused (unhide OK3) zk hzk
    clear h1 h2 O3 cz OK3 hzk
    generalize A3.fused zk = A4 at *
    have KR := hide (two_second (unhide HS) ((unhide O4).at W.heap.size (.cells (iv .i64 (s ++ t)) 40) (by simp)))
    go_wp2_with (refine wpList_load_mid rfl 23 _ rfl W.heap.size 4 rfl _ _ (unhide KR) Try.underlying23 rfl st ?_)
    refine ((unhide O4).st.write (ok_mono (unhide OK4) (by decide)) 3 1 t (unhide HT)).mono ?_
    rintro e w5 ⟨rfl, h1, h2⟩
    have O5 := hide ((unhide O4).call (St' := fun w G => Has W w G b (A4.writeZ 3 1 t)) h1 h2)
    have OK5 : Hid ((A4.writeZ 3 1 t).ok 22) := ok_writeZ (unhide OK4) 3 1 t
    clear h1 h2 O4 KR OK4
    generalize A4.writeZ 3 1 t = A5 at *
    generalize A4.writeE 3 1 t = E5 at *
    by_cases he : E5 = 1
    · subst he
      clear LB
      go_wp2_with fail
      go_ret
      exact ⟨rfl, held_below (Has.stay W b A5) (unhide O5)⟩
    · have LC := hide (unhide LB he)
      clear LB
      have he1 : (E5 == 1) = false := by simpa using he
      clear he
      have ck : w5.cell? ⟨W.heap.size + 1, 1, none⟩ = some (.slice a keep.length cap) := by rw [cell_of_block ((unhide O5).at (W.heap.size + 1) (.cells #[.int .i64 z, .slice a keep.length cap] 43) (by simp))]; rfl
      go_wp2_with fail
      refine ((unhide O5).st.crash_arg (ok_mono (unhide OK5) (by decide)) a keep cap (unhide HK2) (unhide HK3) (unhide HK1)).mono ?_
      rintro e w6 ⟨rfl, h1, h2⟩
      have O6 := hide ((unhide O5).call (St' := fun w G => Has W w G b (A5.crash keep)) h1 h2)
      have OK6 : Hid ((A5.crash keep).ok 1000) := ok_mono (ok_crash (unhide OK5) keep) (by decide)
      clear h1 h2 O5 ck OK5
      generalize A5.crash keep = C at *
      have T := hide (Has.stay W b C)
      have nV := iv_new .i64 C.findV 4 (findV_len C) 23
      have zV : (iv .i64 C.findV).size = 4 := by rw [iv_size, findV_len]
      have sV := info4 (findV_len C)
      have EV1 : Hid (∀ w, (Op.equalIn 10000 23 (.agg (iv .i64 C.findV)) (.agg (iv .i64 t))).run Try.prog w = .ok (decide (C.findV = t)) w) := fun w => equal_super _ _ (findV_len C) (unhide HT) w
      have EV0 : Hid (∀ w, (Op.equalIn 10000 23 (.agg (iv .i64 C.findV)) (.agg (iv .i64 s))).run Try.prog w = .ok (decide (C.findV = s)) w) := fun w => equal_super _ _ (findV_len C) (unhide HS) w
      go_wp2_with fail
      refine ((unhide O6).st.find (unhide OK6)).mono ?_
      rintro e w7 ⟨rfl, h1, h2⟩
      have O7 := hide (((unhide O6).call (St' := fun w G => Has W w G b C) h1 h2).alloc (unhide T) (.cells (iv .i64 C.findV) 23))
      clear h1 h2 O6 OK6
      have HB := hide (held_below (unhide T) (unhide O7))
      have K9 := hide ((unhide O7).at w7.heap.size (.cells (iv .i64 C.findV) 23) (by simp))
      have KB := hide ((unhide O7).at W.heap.size (.cells (iv .i64 (s ++ t)) 40) (by simp))
      have R0 := hide (two_first (unhide KB))
      have R1 := hide (two_second (unhide HS) (unhide KB))
      have c0 : (w7.alloc (.cells (iv .i64 C.findV) 23)).cell? ⟨W.heap.size, 0, none⟩ = some (.int .i64 (s.getD 0 0)) := by
        rw [cell_of_block (unhide KB), iv_get _ _ _ (by rw [List.length_append, unhide HS]; omega), List.getD_eq_getElem?_getD, List.getElem?_append_left (by rw [unhide HS]; decide), ← List.getD_eq_getElem?_getD]
      have c4 : (w7.alloc (.cells (iv .i64 C.findV) 23)).cell? ⟨W.heap.size, 4, none⟩ = some (.int .i64 (t.getD 0 0)) := by
        rw [cell_of_block (unhide KB), iv_get _ _ _ (by rw [List.length_append, unhide HS, unhide HT]; decide), List.getD_eq_getElem?_getD, List.getElem?_append_right (by rw [unhide HS]; exact Nat.le_refl _), unhide HS, ← List.getD_eq_getElem?_getD]
      clear KB
      obtain ⟨fE, hv⟩ := unhide LC
      clear LC
      rw [fE]
      clear fE
      generalize t.getD 0 0 = gt at *
      generalize s.getD 0 0 = gs at *
      generalize C.findAt = I at *
      generalize hV : iv .i64 C.findV = V at *
      clear hV
      rcases hv with ⟨v1, rfl, v3⟩ | ⟨v1, rfl, v3⟩
      · rw [show decide (C.findV = s) = true by simpa using v1] at EV0
        clear EV1 v1 R1
        by_cases hE : E5 = 0
        · have hng : decide (gt > gs) = false := by simpa using v3 hE
          have hng2 : ¬ gs < gt := by simpa using v3 hE
          subst hE
          clear v3 he1
          go_upto_region 16 with fail
          clear c0 c4 nV O7
          go_upto_region 18 with fail
          go_step
          go_wp2_with (first | (with_reducible refine wpList_load_row (by with_unfolding_all rfl) 23 (.tmp 9) (by with_unfolding_all rfl) w7.heap.size (by with_unfolding_all rfl) _ _ _ _ (unhide K9) Try.underlying23 (by with_unfolding_all rfl) sV ?_) | (with_reducible refine wpList_load_mid (by with_unfolding_all rfl) 23 (.tmp 73) (by with_unfolding_all rfl) W.heap.size 0 (by with_unfolding_all rfl) _ _ (unhide R0) Try.underlying23 (by with_unfolding_all rfl) ss ?_) | (with_reducible refine wpList_eqlA (by with_unfolding_all rfl) 23 23 (.tmp 72) (.tmp 74) (by with_unfolding_all rfl) V (iv .i64 s) (by with_unfolding_all rfl) (by with_unfolding_all rfl) super_guard _ (unhide EV0) ?_))
          go_ret
          exact ⟨rfl, unhide HB⟩
        · have hE0 : (E5 == 0) = false := by simpa using hE
          clear hE v3
          by_cases hg : gs < gt
          · skip
            go_upto_region 16 with fail
            clear c0 c4 nV O7
            go_upto_region 18 with fail
            go_step
            go_wp2_with (first | (with_reducible refine wpList_load_row (by with_unfolding_all rfl) 23 (.tmp 9) (by with_unfolding_all rfl) w7.heap.size (by with_unfolding_all rfl) _ _ _ _ (unhide K9) Try.underlying23 (by with_unfolding_all rfl) sV ?_) | (with_reducible refine wpList_load_mid (by with_unfolding_all rfl) 23 (.tmp 73) (by with_unfolding_all rfl) W.heap.size 0 (by with_unfolding_all rfl) _ _ (unhide R0) Try.underlying23 (by with_unfolding_all rfl) ss ?_) | (with_reducible refine wpList_eqlA (by with_unfolding_all rfl) 23 23 (.tmp 72) (.tmp 74) (by with_unfolding_all rfl) V (iv .i64 s) (by with_unfolding_all rfl) (by with_unfolding_all rfl) super_guard _ (unhide EV0) ?_))
            go_ret
            exact ⟨rfl, unhide HB⟩
          · skip
            go_upto_region 16 with fail
            clear c0 c4 nV O7
            go_upto_region 18 with fail
            go_step
            go_wp2_with (first | (with_reducible refine wpList_load_row (by with_unfolding_all rfl) 23 (.tmp 9) (by with_unfolding_all rfl) w7.heap.size (by with_unfolding_all rfl) _ _ _ _ (unhide K9) Try.underlying23 (by with_unfolding_all rfl) sV ?_) | (with_reducible refine wpList_load_mid (by with_unfolding_all rfl) 23 (.tmp 73) (by with_unfolding_all rfl) W.heap.size 0 (by with_unfolding_all rfl) _ _ (unhide R0) Try.underlying23 (by with_unfolding_all rfl) ss ?_) | (with_reducible refine wpList_eqlA (by with_unfolding_all rfl) 23 23 (.tmp 72) (.tmp 74) (by with_unfolding_all rfl) V (iv .i64 s) (by with_unfolding_all rfl) (by with_unfolding_all rfl) super_guard _ (unhide EV0) ?_))
            go_ret
            exact ⟨rfl, unhide HB⟩
      · rw [show decide (C.findV = t) = true by simpa using v1] at EV1
        clear v1
        have hg : gs < gt := v3
        clear v3
        by_cases hE : E5 = 0
        · subst hE
          clear he1 EV0 R0
          go_upto_region 16 with fail
          clear c0 c4 nV O7
          go_upto_region 17 with fail
          go_step
          go_wp2_with (first | (with_reducible refine wpList_load_row (by with_unfolding_all rfl) 23 (.tmp 9) (by with_unfolding_all rfl) w7.heap.size (by with_unfolding_all rfl) _ _ _ _ (unhide K9) Try.underlying23 (by with_unfolding_all rfl) sV ?_) | (with_reducible refine wpList_load_mid (by with_unfolding_all rfl) 23 (.tmp 65) (by with_unfolding_all rfl) W.heap.size 4 (by with_unfolding_all rfl) _ _ (unhide R1) Try.underlying23 (by with_unfolding_all rfl) st ?_) | (with_reducible refine wpList_eqlA (by with_unfolding_all rfl) 23 23 (.tmp 64) (.tmp 66) (by with_unfolding_all rfl) V (iv .i64 t) (by with_unfolding_all rfl) (by with_unfolding_all rfl) super_guard _ (unhide EV1) ?_))
          go_ret
          exact ⟨rfl, unhide HB⟩
        · have hE0 : (E5 == 0) = false := by simpa using hE
          clear hE
          cases hd : decide (C.findV = s)
          · rw [hd] at EV0
            clear hd
            go_upto_region 16 with fail
            clear c0 c4 nV O7
            go_upto_region 18 with fail
            go_step
            go_wp2_with (first | (with_reducible refine wpList_load_row (by with_unfolding_all rfl) 23 (.tmp 9) (by with_unfolding_all rfl) w7.heap.size (by with_unfolding_all rfl) _ _ _ _ (unhide K9) Try.underlying23 (by with_unfolding_all rfl) sV ?_) | (with_reducible refine wpList_load_row_g (by with_unfolding_all rfl) 23 (.tmp 9) (by with_unfolding_all rfl) w7.heap.size (by with_unfolding_all rfl) _ _ _ _ (unhide K9) Try.underlying23 (by with_unfolding_all rfl) sV ?_) | (with_reducible refine wpList_load_mid (by with_unfolding_all rfl) 23 (.tmp 73) (by with_unfolding_all rfl) W.heap.size 0 (by with_unfolding_all rfl) _ _ (unhide R0) Try.underlying23 (by with_unfolding_all rfl) ss ?_) | (with_reducible refine wpList_load_mid_g (by with_unfolding_all rfl) 23 (.tmp 82) (by with_unfolding_all rfl) W.heap.size 4 (by with_unfolding_all rfl) _ _ (unhide R1) Try.underlying23 (by with_unfolding_all rfl) st ?_) | (with_reducible refine wpList_eqlA (by with_unfolding_all rfl) 23 23 (.tmp 72) (.tmp 74) (by with_unfolding_all rfl) V (iv .i64 s) (by with_unfolding_all rfl) (by with_unfolding_all rfl) super_guard _ (unhide EV0) ?_) | (with_reducible refine wpList_eqlA (by with_unfolding_all rfl) 23 23 (.tmp 81) (.tmp 83) (by with_unfolding_all rfl) V (iv .i64 t) (by with_unfolding_all rfl) (by with_unfolding_all rfl) super_guard _ (unhide EV1) ?_))
            go_ret
            exact ⟨rfl, unhide HB⟩
          · rw [hd] at EV0
            clear hd
            go_upto_region 16 with fail
            clear c0 c4 nV O7
            go_upto_region 18 with fail
            go_step
            go_wp2_with (first | (with_reducible refine wpList_load_row (by with_unfolding_all rfl) 23 (.tmp 9) (by with_unfolding_all rfl) w7.heap.size (by with_unfolding_all rfl) _ _ _ _ (unhide K9) Try.underlying23 (by with_unfolding_all rfl) sV ?_) | (with_reducible refine wpList_load_row_g (by with_unfolding_all rfl) 23 (.tmp 9) (by with_unfolding_all rfl) w7.heap.size (by with_unfolding_all rfl) _ _ _ _ (unhide K9) Try.underlying23 (by with_unfolding_all rfl) sV ?_) | (with_reducible refine wpList_load_mid (by with_unfolding_all rfl) 23 (.tmp 73) (by with_unfolding_all rfl) W.heap.size 0 (by with_unfolding_all rfl) _ _ (unhide R0) Try.underlying23 (by with_unfolding_all rfl) ss ?_) | (with_reducible refine wpList_load_mid_g (by with_unfolding_all rfl) 23 (.tmp 82) (by with_unfolding_all rfl) W.heap.size 4 (by with_unfolding_all rfl) _ _ (unhide R1) Try.underlying23 (by with_unfolding_all rfl) st ?_) | (with_reducible refine wpList_eqlA (by with_unfolding_all rfl) 23 23 (.tmp 72) (.tmp 74) (by with_unfolding_all rfl) V (iv .i64 s) (by with_unfolding_all rfl) (by with_unfolding_all rfl) super_guard _ (unhide EV0) ?_) | (with_reducible refine wpList_eqlA (by with_unfolding_all rfl) 23 23 (.tmp 81) (.tmp 83) (by with_unfolding_all rfl) V (iv .i64 t) (by with_unfolding_all rfl) (by with_unfolding_all rfl) super_guard _ (unhide EV1) ?_))
            go_ret
            exact ⟨rfl, unhide HB⟩
  · have he' : (E3 == 0) = false := by simpa using he
    clear he LA
    go_wp2_with fail
    go_ret
    exact ⟨rfl, held_below (Has.stay W b A3) (unhide O3)⟩

set_option maxRecDepth 100000 in
theorem lifted (os : Os) (started : os.Started) (H : Type) (enc : TypeId × Value → H) :
    ReturnsInHanded {} Try.checked os 7 .any (Rows.superLastsSpec.pre6 enc Try.prog Try.f7 Rows.superLastsRow.domain false) (Rows.superLastsSpec.post enc Try.prog Try.f7 false true false false) := by
  refine law_frame (C := Try.checked) (ts := [40, 43]) (tb := 4) (by kernel_rfl) started (by kernel_rfl) Try.func7 Try.params7 (by kernel_rfl) Try.underlying4 (by kernel_rfl) (by kernel_rfl) rfl ?_
    (ChangeSpec.witness6 (enc := enc) (C := Try.checked) false ⟨#[], #[.agg (iv .i64 (List.replicate 8 0)), .agg #[.int .i64 0, .slice none 0 0]], []⟩ 8 (by kernel_rfl) (by kernel_rfl) (by kernel_rfl) (by kernel_rfl)) ?_
  · intro ds hd
    match ds, hd with
    | [d0, d1], _ => rfl
  · intro W base args ds p hval hA
    obtain ⟨v0, vs0, d0, ds0, p0, q0, hargs, rfl, rfl, h0, r0⟩ := trodAll_cons hA
    obtain ⟨v1, vs1, d1, ds1, p1, q1, rfl, rfl, rfl, h1, r1⟩ := trodAll_cons r0
    obtain ⟨rfl, rfl, rfl⟩ := trodAll_nil r1
    obtain rfl : args = #[v0, v1] := by cases args; simp_all
    obtain ⟨s, t, rfl, hst⟩ := open_two (hval 0 40 v0 rfl rfl) h0
    obtain ⟨z, a, keep, cap, rfl, hp⟩ := open_power (hval 1 43 v1 rfl rfl) h1
    exact walk W s t z a keep cap hst hp

theorem over : Rows.superLastsRow.holds Try.pinned (OpenSpec.ofChange Rows.superLastsSpec) :=
  OpenClaim.holds_of_wide 7 Try.f7 rfl rfl rfl rfl rfl rfl rfl ⟨rfl, rfl, rfl, rfl, rfl⟩ rfl rfl rfl rfl rfl (by kernel_rfl) Try.func7 (by kernel_rfl)
    (of_decide_eq_true (by kernel_rfl)) (by unfold Func.isWrapper; first | (rw [if_pos (by decide +kernel)]; kernel_rfl) | (rw [if_neg (by decide +kernel)]; exact ⟨rfl, rfl⟩))
    (fun os started H enc _ => lifted os started H enc)

end Go.Proofs.Ytmmgacpipcgkdaa.superLasts
namespace Go.Proofs.Ytmmgacpipcgkdaa
theorem superLasts_holds : Rows.SuperLastsSaid := superLasts.over
end Go.Proofs.Ytmmgacpipcgkdaa
