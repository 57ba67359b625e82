/-
  For every line, every number of a word and every other word there, WordLines returns true and leaves its arguments as they were: a word of a line is its own eight bytes alone, the lowest first. No condition.
-/
import Derived.Test.YtjdhhnjocfjalabWLines
import Derived.Test.YtjdhhnjocfjalabLaw
import Derived.Test.YtjdhhnjocfjalabFlat
import Derived.Deep.QuietTactic
import Derived.BigQuiet
import Derived.Deep.RegionWith
namespace Go.Proofs.Ytjdhhnjocfjalab.wordLines
open Go.ChangeShapes Go.WideShapes Go.ChangeAt Go.RowKit Go.Joins
set_option linter.unusedVariables false

theorem size8 : (Try.prog.info? 32).map (·.size) = some 8 := by kernel_rfl

theorem rem_cases (i : Int) : (∃ k : Nat, k < 8 ∧ i.tmod 8 = (k : Int)) ∨ (∃ k : Nat, 0 < k ∧ k < 8 ∧ i.tmod 8 = -(k : Int)) := by
  have h1 : i.tmod 8 < 8 := Int.tmod_lt_of_pos i (by decide)
  have h2 : -8 < i.tmod 8 := Int.lt_tmod_of_pos i (by decide)
  by_cases h : 0 ≤ i.tmod 8
  · exact Or.inl ⟨(i.tmod 8).toNat, by omega, by omega⟩
  · exact Or.inr ⟨(-(i.tmod 8)).toNat, by omega, by omega, by omega⟩

theorem getD_set_same (zs : List Int) (k : Nat) (w : Int) (h : k < zs.length) : (zs.set k w).getD k 0 = w := by
  rw [List.getD_eq_getElem?_getD, List.getElem?_set]; simp [h]
theorem getD_set_other (zs : List Int) (k j : Nat) (w : Int) (h : ¬ j = k) : (zs.set k w).getD j 0 = zs.getD j 0 := by
  rw [List.getD_eq_getElem?_getD, List.getElem?_set, if_neg (fun e => h e.symm), List.getD_eq_getElem?_getD]
theorem byte_field (zs : List Int) (k : Nat) (w : Int) (n : Nat) (h0 : 0 ≤ w) (hk : k < zs.length) (h : n / 8 = k) : byteAt (zs.set k w) n = fieldI w (8 * ((n : Int) % 8)) 8 := by
  unfold byteAt fieldI fieldN
  rw [h, getD_set_same _ _ _ hk, show (8 * ((n : Int) % 8)).toNat = n % 8 * 8 by omega, shr_cast w _ h0]
  rfl
theorem byte_other (zs : List Int) (k : Nat) (w : Int) (n : Nat) (h : ¬ n / 8 = k) : byteAt (zs.set k w) n = byteAt zs n := by
  unfold byteAt
  rw [getD_set_other _ _ _ _ h]

set_option maxHeartbeats 2000000 in
theorem walk (zs : List Int) (i w : Int) (hzs : zs.length = 8 ∧ ∀ z ∈ zs, (Lit.int .u64 z).wf = true) (wi : (Lit.int .i64 i).wf = true) (ww : (Lit.int .u64 w).wf = true) (W : World) :
    Calls Try.prog 4 #[.agg (iv .u64 zs), .int .i64 i, .int .u64 w] W fun e W' => e = .returned (.bool true) ∧ Below W.heap.size W W' := by
  obtain ⟨p0, p1⟩ := bounds_u64 ww
  obtain ⟨q0, q1⟩ := bounds_i64 wi
  obtain ⟨hl, hw⟩ := hzs
  have hst : ∀ (V : World) (A : List Int) (C : Array Value), A.length = 64 → C.size = 64 → Sem.run Try.prog (storeCells ⟨V.heap.size, 0, none⟩ (iv .u8 A).toList) (V.alloc (.cells C 33)) = .ok () (V.alloc (.cells (iv .u8 A) 33)) :=
    fun V A C hA hC => run_store_new V _ rfl C (iv .u8 A) _ (by rw [hC, iv_size, hA]) (iv_one _ _)
  have hlen := bytesOf_len
  rcases rem_cases i with ⟨k, hk, hki⟩ | ⟨k, hk0, hk, hki⟩
  all_goals
    have hw' : ∀ z ∈ zs.set k w, (Lit.int .u64 z).wf = true := fun z hz => by
      rcases List.mem_or_eq_of_mem_set hz with h | h
      · exact hw z h
      · rw [h]; exact ww
    have hl' : (zs.set k w).length = 8 := by simpa using hl
    have HB1 := hide (fun V => bytes_any zs hl hw V)
    have HB2 := hide (fun V => bytes_any (zs.set k w) hl' hw' V)
    have hkz : k < zs.length := by omega
    have Hw := hide hw
    clear hw hw'
    go_enter Try.func4, Try.ntmps4
    go_wp2_with fail
    refine (shown_any _).mono ?_
    rintro e w' ⟨rfl, rfl⟩
    go_wp2_with (refine wpList_load_row rfl 32 _ rfl _ rfl _ (iv .u64 zs) (0, 0) _ (heap_new _ _) Try.underlying32 rfl (by rw [iv_size, hl]; exact size8) ?_)
    refine (unhide HB1 _).mono ?_
    rintro e w1 ⟨rfl, hb1⟩
    have s1 : W.heap.size < w1.heap.size := by have := hb1.size; simp at this; omega
    have b1 : w1.heap[W.heap.size]? = some (.cells (iv .u64 zs) 32 (0, 0)) := by rw [hb1.block _ (by simp), heap_new]
    have b1' : ∀ O, (w1.alloc O).heap[W.heap.size]? = some (.cells (iv .u64 zs) 32 (0, 0)) := fun O => by rw [Below.heap_alloc _ _ _ s1, b1]
    have c1 : ∀ O, (w1.alloc O).cell? ⟨W.heap.size, k, none⟩ = some (.int .u64 (zs.getD k 0)) := fun O => by rw [cell_of_block (b1' O), iv_get _ _ _ (by omega)]
    have c2 : ∀ O, (w1.alloc O).frozen? ⟨W.heap.size, k, none⟩ = false := fun O => unfrozen_of_block (b1' O) _
    have B3 : Hid (∀ O, ((w1.setCell ⟨W.heap.size, k, none⟩ (.int .u64 w)).alloc O).heap[W.heap.size]? = some (.cells (iv .u64 (zs.set k w)) 32 (0, 0))) := fun O => by
      rw [Below.heap_alloc _ _ _ (by simpa [World.setCell] using s1), block_setCell b1, iv_set]
    have Hb1 := hide hb1
    clear b1 b1' hb1
    go_wp2_with (refine wpList_load_row rfl 32 _ rfl _ rfl _ (iv .u64 (zs.set k w)) (0, 0) _ (unhide B3 _) Try.underlying32 rfl (by rw [iv_size, hl']; exact size8) ?_)
    refine (unhide HB2 _).mono ?_
    rintro e w2 ⟨rfl, hb2⟩
    have s2 : w1.heap.size < w2.heap.size := by have := hb2.size; simp [World.setCell] at this; omega
    have d1 : ∀ O, (w2.alloc O).heap[w1.heap.size]? = some (.cells (iv .u8 (bytesOf zs)) 33 (0, 0)) := fun O => by
      rw [Below.heap_alloc _ _ _ s2, hb2.block _ (by simp [World.setCell])]
      have := heap_new (w1.setCell ⟨W.heap.size, k, none⟩ (.int .u64 w)) (.cells (iv .u8 (bytesOf zs)) 33)
      simpa [World.setCell] using this
    have h0 : Below W.heap.size W w1 := ((Below.refl _ _).alloc (Nat.le_refl _) _).trans ((unhide Hb1).mono (by simp))
    have h1 : Below W.heap.size W (w1.setCell ⟨W.heap.size, k, none⟩ (.int .u64 w)) := h0.setCell (Nat.le_refl _) _
    have h2 := h1.alloc (by simp [World.setCell]; omega) (.cells (iv .u8 (bytesOf zs)) 33)
    have h3 : Below W.heap.size W (w2.alloc (.cells (iv .u8 (bytesOf (zs.set k w))) 33)) := (h2.trans (hb2.mono (by simp [World.setCell]; omega))).alloc (by omega) _
    have e1 : ∀ n, n < 64 → (w2.alloc (.cells (iv .u8 (bytesOf (zs.set k w))) 33)).cell? ⟨w1.heap.size, n, none⟩ = some (.int .u8 (byteAt zs n)) := fun n hn => by
      rw [cell_of_block (d1 _), iv_get _ _ _ (by rw [bytesOf_len]; omega), bytesOf_get _ _ hn]
    have e2 : ∀ n, n < 64 → (w2.alloc (.cells (iv .u8 (bytesOf (zs.set k w))) 33)).cell? ⟨w2.heap.size, n, none⟩ = some (.int .u8 (byteAt (zs.set k w) n)) := fun n hn => by
      rw [cell_of_block (heap_new _ _), iv_get _ _ _ (by rw [bytesOf_len]; omega), bytesOf_get _ _ hn]
    obtain ⟨V, hV⟩ : ∃ V : World, V = w2.alloc (.cells (iv .u8 (bytesOf (zs.set k w))) 33) := ⟨_, rfl⟩
    rw [← hV] at e1 e2 h3
    have HV := hide hV
    have H3 := hide h3
    have E1 := hide e1
    have E2 := hide e2
    clear d1 hb2 c1 c2 s1 h0 h1 h2 h3 e1 e2 hV Hb1 B3
    have hkd : decide ((k : Int) < 0) = false := by simp
    go_wp2_with fail
    rw [← unhide HV]
    clear HV
    go_loopw [11] (fun c wr => ∃ n q : Nat, n ≤ 64 ∧ c = .int .i64 n ∧ wr = V.drewN q) (fun c _ => 64 - (intOf c).toNat)
    case atStart => exact ⟨0, 0, by omega, rfl, rfl⟩
    case round =>
      obtain ⟨n, q, hn, rfl, rfl⟩ := hrel
      by_cases hlt : n < 64
      · have f1 := unhide E1 n hlt
        have f2 := unhide E2 n hlt
        have bd := byteAt_bd (zs.set k w) n
        by_cases hnk : n / 8 = k
        · have hv : byteAt (zs.set k w) n = fieldI w (8 * ((n : Int) % 8)) 8 := byte_field zs k w n p0 hkz hnk
          rw [hv] at f2 bd
          obtain ⟨fv, hfv⟩ : ∃ fv : Int, fv = fieldI w (8 * ((n : Int) % 8)) 8 := ⟨_, rfl⟩
          rw [← hfv] at f2 bd
          obtain ⟨bd0, bd1⟩ := bd
          have KF : Hid (∀ V' : World, Calls Try.prog 7 #[.int .u64 w, .int .i64 (8 * ((n : Int) % 8)), .int .i64 8] V' fun e w'' => e = .returned (.int .u64 fv) ∧ w'' = V') := fun V' => by
            rw [hfv]; exact field_yes w (8 * ((n : Int) % 8)) 8 p0 p1 (wf_i64 (by omega) (by omega)) (wf_i64 (by omega) (by omega)) (isF_mk (by omega)) V'
          clear hfv
          have g1 : ((n : Int) / 8 != (k : Int)) = false := by simp; omega
          have g2 : ((n : Int) / 8 == (k : Int)) = true := by simp; omega
          have F1 := hide f1
          have Hnk := hide hnk
          clear hv f1 hnk
          go_wp2_with fail
          go_quiet ((go_at_call 7; exact quiet_same2 (unhide KF _)))
          go_wp2_with fail
          go_roundw
          case rel => exact ⟨n + 1, q + nq, by omega, by go_num, rfl⟩
          case measure => simp [intOf]; omega
        · have hv : byteAt (zs.set k w) n = byteAt zs n := byte_other zs k w n hnk
          rw [hv] at f2
          have g1 : ((n : Int) / 8 != (k : Int)) = true := by simp; omega
          have g2 : ((n : Int) / 8 == (k : Int)) = false := by simp; omega
          clear hv hnk bd
          generalize byteAt zs n = z at *
          go_wp2_with fail
          go_quiet (fail)
          go_wp2_with fail
          go_roundw
          case rel => exact ⟨n + 1, q + nq, by omega, by go_num, rfl⟩
          case measure => simp [intOf]; omega
      · go_wp2_with fail
        go_ret
        exact ⟨rfl, (unhide H3).trans (below_draws _ _ _)⟩

theorem open_ints8 {H : Type} {enc : TypeId × Value → H} {W : World} {r : Reach} {b0 base : Nat} {sp : Nat → Bool} {hd : Bool} {v : Value} {d : DataW H} {p : List MemPlace}
    (hv : Value.okWide Try.prog W r b0 32 v) (h : DataW.Trod enc Try.prog W base sp hd 32 v d p) :
    ∃ zs : List Int, v = .agg (iv .u64 zs) ∧ (zs.length = 8 ∧ ∀ z ∈ zs, (Lit.int .u64 z).wf = true) := by
  obtain ⟨cs, rfl, hfit⟩ := flat_open 3 (ks := List.replicate 8 (some .u64)) (by kernel_rfl) (Or.inr ⟨_, _, Try.underlying32⟩) hv h
  obtain ⟨zs, hl, hz, hw⟩ := allFit_ints .u64 8 cs.toList hfit
  exact ⟨zs, by rw [iv, ← hz], hl, hw⟩

set_option maxRecDepth 100000 in
theorem lifted (os : Os) (started : os.Started) (H : Type) (enc : TypeId × Value → H) :
    ReturnsInHanded {} Try.checked os 4 .any (Rows.wordLinesSpec.pre6 enc Try.prog Try.f4 Rows.wordLinesRow.domain false) (Rows.wordLinesSpec.post enc Try.prog Try.f4 false true false false) := by
  refine law_frame (C := Try.checked) (ts := [32, 3, 22]) (tb := 4) (by kernel_rfl) started (by kernel_rfl) Try.func4 Try.params4 (by kernel_rfl) Try.underlying4 (by kernel_rfl) (by kernel_rfl) rfl ?_
    (ChangeSpec.witness6 (enc := enc) (C := Try.checked) false ⟨#[], #[.agg (iv .u64 (List.replicate 8 0)), .int .i64 0, .int .u64 0], []⟩ 8 (by kernel_rfl) (by kernel_rfl) (by kernel_rfl) (by kernel_rfl)) ?_
  · intro ds hd
    match ds, hd with
    | [d0, d1, d2], _ => rfl
  · intro W base args ds p hval hA
    obtain ⟨v0, vs0, d0, ds0, p0, q0, hargs, rfl, rfl, h0, r0⟩ := trodAll_cons hA
    obtain ⟨v1, vs1, d1, ds1, p1, q1, rfl, rfl, rfl, h1, r1⟩ := trodAll_cons r0
    obtain ⟨v2, vs2, d2, ds2, p2, q2, rfl, rfl, rfl, h2, r2⟩ := trodAll_cons r1
    obtain ⟨rfl, rfl, rfl⟩ := trodAll_nil r2
    obtain rfl : args = #[v0, v1, v2] := by cases args; simp_all
    obtain ⟨zs, rfl, hzs⟩ := open_ints8 (hval 0 32 v0 rfl rfl) h0
    obtain ⟨i, rfl, rfl, rfl, wi⟩ := open_int Try.underlying3 (hval 1 3 v1 rfl rfl) h1
    obtain ⟨w, rfl, rfl, rfl, ww⟩ := open_int Try.underlying22 (hval 2 22 v2 rfl rfl) h2
    exact walk zs i w hzs wi ww W

theorem over : Rows.wordLinesRow.holds Try.pinned (OpenSpec.ofChange Rows.wordLinesSpec) :=
  OpenClaim.holds_of_wide 4 Try.f4 rfl rfl rfl rfl rfl rfl rfl ⟨rfl, rfl, rfl, rfl, rfl⟩ rfl rfl rfl rfl rfl (by kernel_rfl) Try.func4 (by kernel_rfl)
    (of_decide_eq_true (by kernel_rfl)) (by unfold Func.isWrapper; first | (rw [if_pos (by decide +kernel)]; kernel_rfl) | (rw [if_neg (by decide +kernel)]; exact ⟨rfl, rfl⟩))
    (fun os started H enc _ => lifted os started H enc)

end Go.Proofs.Ytjdhhnjocfjalab.wordLines
namespace Go.Proofs.Ytjdhhnjocfjalab
theorem wordLines_holds : Rows.WordLinesSaid := wordLines.over
end Go.Proofs.Ytjdhhnjocfjalab
