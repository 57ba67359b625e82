
/-
  For every two tables, RadixDiffers returns true and leaves its arguments as they were: the leaves that differ are the document's, and those that do not have the same line. No condition.
-/
import Derived.Test.YtnjicfnigfkppaaXArgs
import Derived.Test.YtnjicfnigfkppaaXRDiff
import Derived.Deep.Cut
namespace Go.Proofs.Ytnjicfnigfkppaa.radixDiffers
open Go.ChangeShapes Go.WideShapes Go.ChangeAt Go.RowKit Go.Joins
set_option linter.unusedVariables false
set_option linter.unusedSimpArgs false
set_option maxRecDepth 100000

theorem df_cut (a b : List Int) (k : Nat) (hk : k < 7) : dfTo a b 7 = dfTo a b k ++ ((List.range' k (7 - k)).filter fun k => dfB a b k).map fun k : Nat => (k : Int) := by
  unfold dfTo
  rw [← List.map_append, ← List.filter_append]
  congr 2
  rw [List.range_eq_range', List.range_eq_range']
  have := List.range'_append (s := 0) (m := k) (n := 7 - k) (step := 1)
  rw [show k + (7 - k) = 7 by omega, Nat.zero_add, Nat.one_mul] at this
  exact this.symm
theorem getD_append0 (xs ys : List Int) : (xs ++ ys).getD xs.length 0 = ys.getD 0 0 := by
  rw [List.getD_eq_getElem?_getD, List.getElem?_append_right (by omega), Nat.sub_self, List.getD_eq_getElem?_getD]
theorem df_yes (a b : List Int) (k : Nat) (hk : k < 7) (h : dfB a b k = true) : (dfTo a b k).length < (dfTo a b 7).length ∧ (dfTo a b 7).getD (dfTo a b k).length 0 = (k : Int) := by
  rw [df_cut a b k hk]
  obtain ⟨m, hm⟩ : ∃ m, 7 - k = m + 1 := ⟨6 - k, by omega⟩
  rw [hm, List.range'_succ, List.filter_cons, if_pos h]
  refine ⟨by simp, ?_⟩
  rw [getD_append0]; rfl
theorem df_no (a b : List Int) (k : Nat) (hk : k < 7) (h : dfB a b k = false) (hl : (dfTo a b k).length < (dfTo a b 7).length) : (dfTo a b 7).getD (dfTo a b k).length 0 ≠ (k : Int) := by
  rw [df_cut a b k hk] at hl ⊢
  obtain ⟨m, hm⟩ : ∃ m, 7 - k = m + 1 := ⟨6 - k, by omega⟩
  rw [hm, List.range'_succ, List.filter_cons, if_neg (by rw [h]; simp)] at hl ⊢
  rw [getD_append0]
  match hq : (List.range' (k + 1) m).filter fun k => dfB a b k with
  | [] => rw [hq] at hl; simp at hl
  | z :: zs =>
    have : z ∈ (List.range' (k + 1) m).filter fun k => dfB a b k := by rw [hq]; simp
    have := (List.mem_filter.1 this).1
    rw [List.mem_range'_1] at this
    show (z : Int) ≠ (k : Int)
    omega
theorem row_form {w : World} {base : Nat} {v : Value} {zs : List Int} (h : RowX base v zs w) : ∃ a cap, v = .slice a zs.length cap := by
  rcases h.2 with ⟨rfl, h'⟩ | ⟨g, cap, cur, rfl, h1⟩
  · exact ⟨_, _, by rw [h']⟩
  · exact ⟨_, _, rfl⟩
theorem row_at {w : World} {base n cap : Nat} {a : Option Addr} {zs : List Int} (h : RowX base (.slice a n cap) zs w) (i : Nat) (hi : i < zs.length) : ∃ g, a = some ⟨g, 0, none⟩ ∧ w.cell? ⟨g, i, none⟩ = some (.int .i64 (zs.getD i 0)) := by
  obtain ⟨g, cap', h1, -, h3, h4⟩ := h.cell (by intro e; rw [e] at hi; simp at hi)
  simp only [Value.slice.injEq] at h1
  exact ⟨g, h1.1, h4 i hi⟩

set_option maxHeartbeats 8000000 in
theorem walk (a b : List Int) (ha : IsTab a) (hb : IsTab b) (W : World) :
    Calls Try.prog 6 #[.agg (iv .i64 a), .agg (iv .i64 b)] W fun e W' => e = .returned (.bool true) ∧ Below W.heap.size W W' := by
  have sA := s147o_of a ha.1
  have sB := s147o_of b hb.1
  have D1 := hide (differ_any a b ha.1 hb.1)
  have D2 := hide (rdiffer_any a b ha.1 hb.1)
  have L1 : Hid (∀ (k : Int) w, _) := fun k w => leaf_any a ha.1 k w
  have L2 : Hid (∀ (k : Int) w, _) := fun k w => leaf_any b hb.1 k w
  clear ha hb
  generalize iv .i64 a = A at *
  generalize iv .i64 b = B at *
  have O0 := hide (((Own.start W).alloc (.cells A 24)).alloc (.cells B 24))
  have g0 : (W.alloc (.cells A 24)).heap.size = W.heap.size + 1 := by simp
  rw [g0] at O0
  clear g0
  go_enter Try.func6, Try.ntmps6
  go_wp2_with fail
  refine (shown9_any _).mono ?_
  rintro e w1 ⟨rfl, hb⟩
  have O1 := hide ((unhide O0).call hb)
  clear hb O0
  have KA := hide ((unhide O1).at W.heap.size (.cells A 24) (by simp))
  have KB := hide ((unhide O1).at (W.heap.size + 1) (.cells B 24) (by simp))
  go_wp2_with (first | (with_reducible refine wpList_load_row (by with_unfolding_all rfl) 24 (.tmp 2) (by with_unfolding_all rfl) W.heap.size (by with_unfolding_all rfl) _ _ _ _ (unhide KA) Try.underlying24 (by with_unfolding_all rfl) sA ?_) | (with_reducible refine wpList_load_row (by with_unfolding_all rfl) 24 (.tmp 3) (by with_unfolding_all rfl) (W.heap.size + 1) (by with_unfolding_all rfl) _ _ _ _ (unhide KB) Try.underlying24 (by with_unfolding_all rfl) sB ?_))
  refine (unhide D1 _).mono ?_
  rintro e w2 ⟨vx, rfl, hb, rx⟩
  obtain ⟨ax, cx, rfl⟩ := row_form rx
  have Rx := hide (rx.mono (show W.heap.size ≤ w1.heap.size from (unhide O1).below.size))
  have O2 := hide ((unhide O1).call hb)
  have hw2 := (unhide O2).below.size
  clear rx hb D1 O1 KA KB
  have KA := hide ((unhide O2).at W.heap.size (.cells A 24) (by simp))
  have KB := hide ((unhide O2).at (W.heap.size + 1) (.cells B 24) (by simp))
  go_wp2_with (first | (with_reducible refine wpList_load_row (by with_unfolding_all rfl) 24 (.tmp 2) (by with_unfolding_all rfl) W.heap.size (by with_unfolding_all rfl) _ _ _ _ (unhide KA) Try.underlying24 (by with_unfolding_all rfl) sA ?_) | (with_reducible refine wpList_load_row (by with_unfolding_all rfl) 24 (.tmp 3) (by with_unfolding_all rfl) (W.heap.size + 1) (by with_unfolding_all rfl) _ _ _ _ (unhide KB) Try.underlying24 (by with_unfolding_all rfl) sB ?_))
  refine (unhide D2 _).mono ?_
  rintro e w3 ⟨vy, rfl, hb, ry⟩
  obtain ⟨ay, cy, rfl⟩ := row_form ry
  have Ry := hide (ry.mono hw2)
  have O3 := hide ((unhide O2).call hb)
  have Rx3 := hide ((unhide Rx).below hb)
  clear ry hb D2 O2 KA KB Rx hw2
  have F1 : Hid (∀ k, k < 7 → dfB a b k = true → (dfTo a b k).length < (dfTo a b 7).length ∧ (dfTo a b 7).getD (dfTo a b k).length 0 = (k : Int)) := df_yes a b
  have F2 : Hid (∀ k, k < 7 → dfB a b k = false → (dfTo a b k).length < (dfTo a b 7).length → (dfTo a b 7).getD (dfTo a b k).length 0 ≠ (k : Int)) := df_no a b
  have F3 : Hid (∀ k, (dfTo a b (k + 1)).length = if dfB a b k then (dfTo a b k).length + 1 else (dfTo a b k).length) := fun k => by rw [dfTo_succ]; split <;> simp
  have F4 : Hid (∀ k : Nat, dfB a b k = false → partT a k = partT b k) := fun k h => by unfold dfB at h; simpa using h
  have F5 : Hid ((dfTo a b 7).length ≤ 7) := dfTo_len a b 7
  have F6 : Hid ((dfTo a b 0).length = 0) := rfl
  have F7 : Hid (∀ k, k ≤ 7 → (dfTo a b k).length ≤ 7) := fun k hk => Nat.le_trans (dfTo_len a b k) hk
  obtain ⟨p, hp⟩ : ∃ p : Nat → Nat, p = fun k => (dfTo a b k).length := ⟨_, rfl⟩
  have hp' : ∀ k, (dfTo a b k).length = p k := fun k => by rw [hp]
  simp only [hp'] at F1 F2 F3 F5 F6 F7
  rw [hp' 7]
  have HP := hide (hp' 7)
  clear hp hp'
  generalize dfTo a b 7 = d at *
  have hn0 : (p 7 != p 7) = false := by simp
  go_wp2_with fail
  go_loopw [8, 9] (fun z1 z2 wr => ∃ k : Nat, k ≤ 7 ∧ z1 = .int .i64 (p k : Int) ∧ z2 = .int .i64 k ∧ Own W wr [(W.heap.size + 1, .cells B 24), (W.heap.size, .cells A 24)] ∧ RowX W.heap.size (.slice ax (p 7) cx) d wr ∧ RowX W.heap.size (.slice ay (p 7) cy) d wr) (fun _ z2 _ => 7 - (intOf z2).toNat)
  case atStart => exact ⟨0, by omega, by rw [unhide F6]; rfl, rfl, unhide O3, by rw [← unhide HP]; exact unhide Rx3, by rw [← unhide HP]; exact unhide Ry⟩
  case round =>
    clear O3 Rx3 Ry
    obtain ⟨k, hk, rfl, rfl, o1, rx, ry⟩ := hrel
    have O1 := hide o1
    have Rx := hide rx
    have Ry := hide ry
    clear o1 rx ry
    have h7 := unhide F5
    have hk7 := unhide F7 k hk
    by_cases hlt : k < 7
    · cases hd : dfB a b k with
      | true =>
        obtain ⟨f1, f2⟩ := unhide F1 k hlt hd
        have E1 := hide (unhide F3 k)
        rw [hd, if_pos rfl] at E1
        obtain ⟨gx, rfl, c0⟩ := row_at (unhide Rx) (p k) (by rw [unhide HP]; exact f1)
        obtain ⟨gy, rfl, c1⟩ := row_at (unhide Ry) (p k) (by rw [unhide HP]; exact f1)
        rw [f2] at c0 c1
        clear hd f2 F1 F2 F3 F4 L1 L2
        go_wp2_with fail
        go_roundw
        case rel => exact ⟨k + 1, by omega, by rw [unhide E1]; go_num, by go_num, unhide O1, unhide Rx, unhide Ry⟩
        case measure => simp [intOf]; omega
      | false =>
        have hpt := unhide F4 k hd
        have C1 := hide (unhide L1 (k : Int))
        have C2 := hide (unhide L2 (k : Int))
        have hV : leafKV b (k : Int) = leafKV a (k : Int) := by unfold leafKV; rw [Int.toNat_natCast, hpt]
        have hEE : leafKE b (k : Int) = leafKE a (k : Int) := by unfold leafKE; rw [Int.toNat_natCast, hpt]
        rw [hV, hEE] at C2
        have sL := s8_of (leafKV a (k : Int)) (leafKV_len _ _)
        have nL := iv_newx .u64 (leafKV a (k : Int)) 27 8 (leafKV_len _ _)
        have zL : (iv .u64 (leafKV a (k : Int))).size = 8 := by rw [iv_size, leafKV_len]
        have EL : Hid (∀ w, (Op.equalIn 10000 27 (.agg (iv .u64 (leafKV a (k : Int)))) (.agg (iv .u64 (leafKV a (k : Int))))).run Try.prog w = .ok true w) := fun w => by rw [equal_line _ _ (leafKV_len _ _) (leafKV_len _ _)]; simp
        have E1 := hide (unhide F3 k)
        rw [hd, if_neg (by simp)] at E1
        have f2 := unhide F2 k hlt hd
        clear hV hEE hpt hd F1 F2 F3 F4 L1 L2
        generalize iv .u64 (leafKV a (k : Int)) = L at *
        generalize leafKE a (k : Int) = E at *
        by_cases hat : p k < p 7
        · obtain ⟨gx, rfl, c0⟩ := row_at (unhide Rx) (p k) (by rw [unhide HP]; exact hat)
          have hz : (d.getD (p k) 0 == (k : Int)) = false := by simpa using f2 hat
          clear f2
          generalize d.getD (p k) 0 = z at *
          have KA := hide ((unhide O1).at W.heap.size (.cells A 24) (by simp))
          go_wp2_with (with_reducible refine wpList_load_row (by with_unfolding_all rfl) 24 _ (by with_unfolding_all rfl) W.heap.size (by with_unfolding_all rfl) _ _ _ _ (unhide KA) Try.underlying24 (by with_unfolding_all rfl) sA ?_)
          refine (unhide C1 _).mono ?_
          rintro e w2 ⟨rfl, hb⟩
          have O2 := hide (((unhide O1).call hb).alloc (.cells L 27))
          have R2x := hide (((unhide Rx).below hb).below ((Below.refl _ w2).alloc (Nat.le_refl _) (.cells L 27)))
          have R2y := hide (((unhide Ry).below hb).below ((Below.refl _ w2).alloc (Nat.le_refl _) (.cells L 27)))
          clear hb O1 KA Rx Ry C1
          have KB := hide ((unhide O2).at (W.heap.size + 1) (.cells B 24) (by simp))
          go_wp2_with (with_reducible refine wpList_load_row (by with_unfolding_all rfl) 24 _ (by with_unfolding_all rfl) (W.heap.size + 1) (by with_unfolding_all rfl) _ _ _ _ (unhide KB) Try.underlying24 (by with_unfolding_all rfl) sB ?_)
          refine (unhide C2 _).mono ?_
          rintro e w3 ⟨rfl, hb⟩
          have O3 := hide (((unhide O2).call hb).alloc (.cells L 27))
          have R3x := hide (((unhide R2x).below hb).below ((Below.refl _ w3).alloc (Nat.le_refl _) (.cells L 27)))
          have R3y := hide (((unhide R2y).below hb).below ((Below.refl _ w3).alloc (Nat.le_refl _) (.cells L 27)))
          clear hb O2 KB R2x R2y C2
          have K10 := hide ((unhide O3).at w2.heap.size (.cells L 27) (by simp))
          have K12 := hide ((unhide O3).at w3.heap.size (.cells L 27) (by simp))
          have hE : (E != E) = false := by simp
          go_wp2_with (first | (with_reducible refine wpList_load_row (by with_unfolding_all rfl) 27 (.tmp 10) (by with_unfolding_all rfl) w2.heap.size (by with_unfolding_all rfl) _ _ _ _ (unhide K10) Try.underlying27 (by with_unfolding_all rfl) sL ?_) | (with_reducible refine wpList_load_row (by with_unfolding_all rfl) 27 (.tmp 12) (by with_unfolding_all rfl) w3.heap.size (by with_unfolding_all rfl) _ _ _ _ (unhide K12) Try.underlying27 (by with_unfolding_all rfl) sL ?_) | (with_reducible refine wpList_neqA (by with_unfolding_all rfl) 27 27 (.tmp 66) (.tmp 67) (by with_unfolding_all rfl) L L (by with_unfolding_all rfl) (by with_unfolding_all rfl) line_guard2 _ (unhide EL) ?_))
          go_roundw
          case rel => exact ⟨k + 1, by omega, by rw [unhide E1], by go_num, (unhide O3).less (by intro p hp; simp only [List.mem_cons, List.not_mem_nil, or_false] at hp ⊢; rcases hp with rfl | rfl <;> simp), unhide R3x, unhide R3y⟩
          case measure => simp [intOf]; omega
        · clear f2
          have KA := hide ((unhide O1).at W.heap.size (.cells A 24) (by simp))
          go_wp2_with (with_reducible refine wpList_load_row (by with_unfolding_all rfl) 24 _ (by with_unfolding_all rfl) W.heap.size (by with_unfolding_all rfl) _ _ _ _ (unhide KA) Try.underlying24 (by with_unfolding_all rfl) sA ?_)
          refine (unhide C1 _).mono ?_
          rintro e w2 ⟨rfl, hb⟩
          have O2 := hide (((unhide O1).call hb).alloc (.cells L 27))
          have R2x := hide (((unhide Rx).below hb).below ((Below.refl _ w2).alloc (Nat.le_refl _) (.cells L 27)))
          have R2y := hide (((unhide Ry).below hb).below ((Below.refl _ w2).alloc (Nat.le_refl _) (.cells L 27)))
          clear hb O1 KA Rx Ry C1
          have KB := hide ((unhide O2).at (W.heap.size + 1) (.cells B 24) (by simp))
          go_wp2_with (with_reducible refine wpList_load_row (by with_unfolding_all rfl) 24 _ (by with_unfolding_all rfl) (W.heap.size + 1) (by with_unfolding_all rfl) _ _ _ _ (unhide KB) Try.underlying24 (by with_unfolding_all rfl) sB ?_)
          refine (unhide C2 _).mono ?_
          rintro e w3 ⟨rfl, hb⟩
          have O3 := hide (((unhide O2).call hb).alloc (.cells L 27))
          have R3x := hide (((unhide R2x).below hb).below ((Below.refl _ w3).alloc (Nat.le_refl _) (.cells L 27)))
          have R3y := hide (((unhide R2y).below hb).below ((Below.refl _ w3).alloc (Nat.le_refl _) (.cells L 27)))
          clear hb O2 KB R2x R2y C2
          have K10 := hide ((unhide O3).at w2.heap.size (.cells L 27) (by simp))
          have K12 := hide ((unhide O3).at w3.heap.size (.cells L 27) (by simp))
          have hE : (E != E) = false := by simp
          go_wp2_with (first | (with_reducible refine wpList_load_row (by with_unfolding_all rfl) 27 (.tmp 10) (by with_unfolding_all rfl) w2.heap.size (by with_unfolding_all rfl) _ _ _ _ (unhide K10) Try.underlying27 (by with_unfolding_all rfl) sL ?_) | (with_reducible refine wpList_load_row (by with_unfolding_all rfl) 27 (.tmp 12) (by with_unfolding_all rfl) w3.heap.size (by with_unfolding_all rfl) _ _ _ _ (unhide K12) Try.underlying27 (by with_unfolding_all rfl) sL ?_) | (with_reducible refine wpList_neqA (by with_unfolding_all rfl) 27 27 (.tmp 66) (.tmp 67) (by with_unfolding_all rfl) L L (by with_unfolding_all rfl) (by with_unfolding_all rfl) line_guard2 _ (unhide EL) ?_))
          go_roundw
          case rel => exact ⟨k + 1, by omega, by rw [unhide E1], by go_num, (unhide O3).less (by intro p hp; simp only [List.mem_cons, List.not_mem_nil, or_false] at hp ⊢; rcases hp with rfl | rfl <;> simp), unhide R3x, unhide R3y⟩
          case measure => simp [intOf]; omega
    · obtain rfl : k = 7 := by omega
      have he : ((p 7 : Int) == (p 7 : Int)) = true := by simp
      go_wp2_with fail
      go_ret
      exact ⟨rfl, (unhide O1).below⟩

set_option maxRecDepth 100000 in
theorem lifted (os : Os) (started : os.Started) (H : Type) (enc : TypeId × Value → H) :
    ReturnsInHanded {} Try.checked os 6 .any (Rows.radixDiffersSpec.pre6 enc Try.prog Try.f6 Rows.radixDiffersRow.domain false) (Rows.radixDiffersSpec.post enc Try.prog Try.f6 false true false false) := by
  refine law_frame (C := Try.checked) (ts := [24, 24]) (tb := 4) (by kernel_rfl) started (by kernel_rfl) Try.func6 Try.params6 (by kernel_rfl) Try.underlying4 (by kernel_rfl) (by kernel_rfl) rfl ?_
    (ChangeSpec.witness6 (enc := enc) (C := Try.checked) false ⟨#[], #[.agg (iv .i64 (List.replicate 147 0)), .agg (iv .i64 (List.replicate 147 0))], []⟩ 8 (by kernel_rfl) (by kernel_rfl) (by kernel_rfl) (by kernel_rfl)) ?_
  · intro ds hd
    match ds, hd with
    | [d0, d1], _ => rfl
  · intro W base args ds p hval hA
    obtain ⟨v0, vs0, d0, ds0, p0, q0, hargs, rfl, rfl, h0, r0⟩ := trodAll_cons hA
    obtain ⟨v1, vs1, d1, ds1, p1, q1, rfl, rfl, rfl, h1, r1⟩ := trodAll_cons r0
    obtain ⟨rfl, rfl, rfl⟩ := trodAll_nil r1
    obtain rfl : args = #[v0, v1] := by cases args; simp_all
    obtain ⟨a, rfl, ha⟩ := open_tab (hval 0 24 v0 rfl rfl) h0
    obtain ⟨b, rfl, hb⟩ := open_tab (hval 1 24 v1 rfl rfl) h1
    exact walk a b ha hb W

theorem over : Rows.radixDiffersRow.holds Try.pinned (OpenSpec.ofChange Rows.radixDiffersSpec) :=
  OpenClaim.holds_of_wide 6 Try.f6 rfl rfl rfl rfl rfl rfl rfl ⟨rfl, rfl, rfl, rfl, rfl⟩ rfl rfl rfl rfl rfl (by kernel_rfl) Try.func6 (by kernel_rfl)
    (of_decide_eq_true (by kernel_rfl)) (by unfold Func.isWrapper; first | (rw [if_pos (by decide +kernel)]; kernel_rfl) | (rw [if_neg (by decide +kernel)]; exact ⟨rfl, rfl⟩))
    (fun os started H enc _ => lifted os started H enc)

end Go.Proofs.Ytnjicfnigfkppaa.radixDiffers
namespace Go.Proofs.Ytnjicfnigfkppaa
theorem radixDiffers_holds : Rows.RadixDiffersSaid := radixDiffers.over
end Go.Proofs.Ytnjicfnigfkppaa
