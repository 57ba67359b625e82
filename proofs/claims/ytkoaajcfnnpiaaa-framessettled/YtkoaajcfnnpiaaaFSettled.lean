/-
  For every word, FramesSettled returns true: lines that are to be free later are told by nobody till they are settled, and then all are free. No condition.
-/
import Derived.Test.YtkoaajcfnnpiaaaFHas
import Derived.Laws.BitsAllLaws
import Derived.Test.YtkoaajcfnnpiaaaLaw
import Derived.Test.YtkoaajcfnnpiaaaRows
namespace Go.Proofs.Ytkoaajcfnnpiaaa.framesSettled
open Go.ChangeShapes Go.WideShapes Go.ChangeAt Go.RowKit Go.Joins
set_option linter.unusedVariables false
set_option linter.unusedSimpArgs false

def bit (z : Int) (i : Nat) : Bool := z.toNat.testBit i
theorem bit_eq (z : Int) (i : Nat) (h0 : 0 ≤ z) (h1 : z ≤ 18446744073709551615) : bits .and .u64 (z / 2 ^ i) 1 = if bit z i = true then 1 else 0 := by
  have hw : z.toNat / 2 ^ i ≤ z.toNat := Nat.div_le_self _ _
  have hs : z / 2 ^ i = ((z.toNat / 2 ^ i : Nat) : Int) := by
    obtain ⟨Z, rfl⟩ := Int.eq_ofNat_of_zero_le h0
    rw [show (2 : Int) ^ i = ((2 ^ i : Nat) : Int) by simp, Int.toNat_natCast, Int.natCast_ediv]
  rw [hs, show (1 : Int) = ((1 : Nat) : Int) by rfl, u64_and_nat _ _ (by omega) (by omega), Nat.and_one_is_mod]
  unfold bit
  rw [Nat.testBit_eq_decide_div_mod_eq]
  by_cases h : z.toNat / 2 ^ i % 2 = 1
  · rw [h]; simp
  · rw [show z.toNat / 2 ^ i % 2 = 0 by omega]; simp

/-- The first k of 32 are taken. -/
def tk (k : Nat) : Fr := ⟨0, 32, fun j => if j < k then 1 else 0⟩
theorem tk_zero : tk 0 = Fr.new 0 32 := by unfold tk Fr.new; congr 1
theorem tk_next (i : Nat) (hi : i < 32) : (tk i).allocA = tk (i + 1) := by
  have hf : (tk i).first = some i := first_some hi (fr_iff.2 ⟨Nat.zero_le _, by simp [tk]⟩) (fun j hj => fr_false.2 fun q => by have := q.2; simp [tk, hj] at this)
  unfold Fr.allocA
  rw [hf]
  show Fr.put (tk i) i 1 = _
  unfold Fr.put tk
  congr 1
  funext j
  by_cases h : j = i
  · subst h; rw [upd_same, if_pos (by omega)]
  · rw [upd_other _ _ _ _ h]
    by_cases h2 : j < i
    · rw [if_pos (by omega)]; simp [h2]
    · rw [if_neg (by omega)]; simp [h2]
/-- All are taken, but those below k whose bit is set are to be free later. -/
def tl (z : Int) (k : Nat) : Fr := ⟨0, 32, fun j => if j < 32 then (if j < k ∧ bit z j = true then 2 else 1) else 0⟩
theorem tl_zero (z : Int) : tk 32 = tl z 0 := by
  unfold tk tl
  congr 1
theorem tl_none (z : Int) (k : Nat) (h : bit z k = false) : tl z (k + 1) = tl z k := by
  unfold tl
  congr 1
  funext j
  by_cases h3 : j < 32
  · rw [if_pos h3, if_pos h3]
    by_cases hj : j = k
    · subst hj; rw [if_neg (by simp [h]), if_neg (by simp [h])]
    · by_cases h2 : j < k ∧ bit z j = true
      · rw [if_pos h2, if_pos ⟨by omega, h2.2⟩]
      · rw [if_neg h2, if_neg (fun q => h2 ⟨by omega, q.2⟩)]
  · rw [if_neg h3, if_neg h3]
theorem tl_put (z : Int) (k : Nat) (hk : k < 32) (h : bit z k = true) : (tl z k).put k 2 = tl z (k + 1) := by
  unfold tl Fr.put
  congr 1
  funext j
  by_cases hj : j = k
  · subst hj; rw [upd_same, if_pos hk, if_pos ⟨by omega, h⟩]
  · rw [upd_other _ _ _ _ hj]
    show (if j < 32 then (if j < k ∧ bit z j = true then (2 : Int) else 1) else 0) = _
    by_cases h3 : j < 32
    · rw [if_pos h3, if_pos h3]
      by_cases h2 : j < k ∧ bit z j = true
      · rw [if_pos h2, if_pos ⟨by omega, h2.2⟩]
      · rw [if_neg h2, if_neg (fun q => h2 ⟨by omega, q.2⟩)]
    · rw [if_neg h3, if_neg h3]
theorem tl_isF (z : Int) (m k : Nat) (hk : k < 32) : (tl z m).isF (k : Int) := ⟨by show ((0 : Nat) : Int) ≤ _; omega, by show _ < ((32 : Nat) : Int); omega⟩
theorem tl_later (z : Int) (k : Nat) (hk : k < 32) (h : bit z k = true) : (tl z k).turnA (k : Int) 1 2 = tl z (k + 1) ∧ (tl z k).turnE (k : Int) 1 = 0 := by
  have hs : (tl z k).s k = 1 := by
    show (if k < 32 then (if k < k ∧ bit z k = true then (2 : Int) else 1) else 0) = 1
    rw [if_pos hk, if_neg (by omega)]
  refine ⟨?_, ?_⟩
  · unfold Fr.turnA
    have h1 : (tl z k).st (k : Int) = 1 := by rw [st_nat, if_pos ⟨Nat.zero_le _, hk⟩, hs]
    rw [h1, if_pos rfl]
    exact tl_put z k hk h
  · unfold Fr.turnE
    rw [if_pos (tl_isF z k k hk)]
    exact if_pos hs
theorem tl_again (z : Int) (k : Nat) (hk : k < 32) (h : bit z k = true) : (tl z (k + 1)).turnA (k : Int) 1 2 = tl z (k + 1) ∧ (tl z (k + 1)).turnE (k : Int) 1 = 3 ∧ (tl z (k + 1)).st (k : Int) = 2 := by
  have hs : (tl z (k + 1)).s k = 2 := by
    show (if k < 32 then (if k < k + 1 ∧ bit z k = true then (2 : Int) else 1) else 0) = 2
    rw [if_pos hk, if_pos ⟨by omega, h⟩]
  have h1 : (tl z (k + 1)).st (k : Int) = 2 := by rw [st_nat, if_pos ⟨Nat.zero_le _, hk⟩, hs]
  refine ⟨?_, ?_, h1⟩
  · unfold Fr.turnA
    rw [h1]; rfl
  · unfold Fr.turnE
    rw [if_pos (tl_isF z _ k hk)]
    exact if_neg (by rw [show ((k : Int)).toNat = k by omega, hs]; decide)
theorem tl_full (z : Int) : (tl z 32).first = none := first_none fun i hi => fr_false.2 fun q => by
  have h : i < 32 := hi
  have := q.2
  simp only [tl, h, if_true] at this
  by_cases hb : bit z i = true <;> simp [hb] at this
/-- How many bits are set below k. -/
def cnt (z : Int) (k : Nat) : Nat := (List.range k).countP (bit z)
theorem cnt_next (z : Int) (k : Nat) : cnt z (k + 1) = cnt z k + (if bit z k = true then 1 else 0) := by
  unfold cnt
  rw [List.range_succ, List.countP_append]
  simp [List.countP_cons]
theorem cnt_le (z : Int) (k : Nat) : cnt z k ≤ k := by
  have := List.countP_le_length (p := bit z) (l := List.range k)
  rw [List.length_range] at this
  exact this
def ts (z : Int) : Fr := (tl z 32).settle
theorem ts_s (z : Int) (k : Nat) (hk : k < 32) : (ts z).s k = if bit z k = true then 0 else 1 := by
  show (if ((0 : Nat) ≤ k ∧ k < 32) ∧ (if k < 32 then (if k < 32 ∧ bit z k = true then (2 : Int) else 1) else 0) = 2 then (0 : Int) else (if k < 32 then (if k < 32 ∧ bit z k = true then (2 : Int) else 1) else 0)) = _
  rcases Bool.eq_false_or_eq_true (bit z k) with hb | hb
  · simp [hk, hb]
  · simp [hk, hb]
theorem ts_st (z : Int) (k : Nat) (hk : k < 32) : (ts z).st (k : Int) = if bit z k = true then 0 else 1 := by
  rw [st_nat, if_pos (show (ts z).lo ≤ k ∧ k < (ts z).hi from ⟨Nat.zero_le _, hk⟩), ts_s z k hk]
theorem ts_left (z : Int) : (ts z).left = cnt z 32 := by
  show (List.range 32).countP (ts z).fr = (List.range 32).countP (bit z)
  refine List.countP_congr fun k hk => ?_
  have hk' := List.mem_range.1 hk
  rw [fr_iff, ts_s z k hk']
  constructor
  · intro q
    by_cases hb : bit z k = true
    · exact hb
    · have := q.2; simp [hb] at this
  · intro hb
    exact ⟨Nat.zero_le _, by simp [hb]⟩
theorem drewN_has {W w : World} {G : Nat → Prop} {b : Nat} {A : Fr} (h : FHas W w G b A) (n : Nat) : FHas W (w.drewN n) G b A :=
  ⟨h.rep, h.ok, ⟨h.keeps.os, h.keeps.tape, h.keeps.output, h.keeps.size, h.keeps.block⟩, h.new, h.gs⟩

set_option maxRecDepth 100000 in
theorem walk (z : Int) (wz : (Lit.int .u64 z).wf = true) (W : World) :
    Calls Try.prog 8 #[.int .u64 z] W fun e W' => e = .returned (.bool true) ∧ Below W.heap.size W W' := by
  have hz : 0 ≤ z ∧ z ≤ 18446744073709551615 := by
    simp [Lit.wf, IntKind.min, IntKind.max, IntKind.signed, IntKind.bits] at wz; omega
  have HZ := hide hz
  clear hz wz
  go_enter Try.func8, Try.ntmps8
  go_wp2_with fail
  refine (fshown_any W).mono ?_
  rintro e w0 ⟨rfl, hk0⟩
  go_wp2_with fail
  refine (fnew_any w0 0 32 (by decide) (by decide)).mono ?_
  intro e w1 hm
  obtain ⟨p, rfl, h0, -⟩ := fmade_has W hk0 (new_ok (by decide) (by decide)) hm (fun _ => False) (fun _ h => h.elim)
  rw [← tk_zero] at h0
  have H0 := hide h0
  clear hm h0 hk0
  go_wp2_with fail
  go_loopw [6] (fun i wr => ∃ j : Nat, j ≤ 32 ∧ i = .int .i64 j ∧ FHas W wr (fun _ => False) p (tk j)) (fun i _ => 32 - (intOf i).toNat)
  case atStart => exact ⟨0, by omega, rfl, unhide H0⟩
  case round =>
    clear H0
    obtain ⟨j, hj, rfl, hA⟩ := hrel
    have HA := hide hA
    clear hA
    by_cases hlt : j < 32
    · have hj32 : (j : Int) < 32 := by omega
      have e1 := tk_next j hlt
      go_wp2_with fail
      refine ((unhide HA).allocate).mono ?_
      rintro e w2 ⟨rfl, h2, -⟩
      rw [e1] at h2
      have H2 := hide h2
      clear h2 HA e1
      generalize (tk j).allocV = av
      generalize (tk j).allocE = ae
      go_wp2_with fail
      go_roundw
      case rel => exact ⟨j + 1, by omega, by go_num, unhide H2⟩
      case measure => simp [intOf]; omega
    · rw [show tk j = tl z 0 by rw [show j = 32 by omega]; exact tl_zero z] at HA
      have hj32 : ¬ ((j : Int) < 32) := by omega
      clear hj hlt
      generalize (j : Int) = last at hj32 ⊢
      go_wp2_with fail
      clear hj32
      go_loopw [7, 8] (fun m i wv => ∃ j : Nat, j ≤ 32 ∧ m = .int .i64 (cnt z j : Int) ∧ i = .int .i64 j ∧ FHas W wv (fun _ => False) p (tl z j)) (fun _ i _ => 32 - (intOf i).toNat)
      case atStart => exact ⟨0, by omega, rfl, rfl, unhide HA⟩
      case round =>
        clear HA
        obtain ⟨j, hj, rfl, rfl, hA⟩ := hrel
        have HA := hide hA
        clear hA
        obtain ⟨m, hm⟩ : ∃ m, m = cnt z j := ⟨_, rfl⟩
        have hmj : m ≤ j := by rw [hm]; exact cnt_le z j
        rw [← hm]
        have HM := hide hm
        clear hm
        by_cases hlt : j < 32
        · have hj0 : (0 : Int) ≤ (j : Int) := by omega
          have hj32 : (j : Int) < 32 := by omega
          have hbit := bit_eq z j (unhide HZ).1 (unhide HZ).2
          rcases Bool.eq_false_or_eq_true (bit z j) with hb | hb
          · rw [if_pos hb] at hbit
            have HN : Hid (cnt z (j + 1) = m + 1) := by show _ = _; rw [cnt_next, if_pos hb, ← unhide HM]
            obtain ⟨e1, e2⟩ := tl_later z j hlt hb
            obtain ⟨e3, e4, e5⟩ := tl_again z j hlt hb
            clear hb
            go_wp2_with fail
            refine ((unhide HA).later (j : Int)).mono ?_
            rintro e w2 ⟨rfl, h2, -⟩
            rw [e1] at h2
            rw [e2]
            have H2 := hide h2
            clear h2 HA e1 e2
            go_wp2_with fail
            refine ((unhide H2).later (j : Int)).mono ?_
            rintro e w3 ⟨rfl, h3, -⟩
            rw [e3] at h3
            rw [e4]
            have H3 := hide h3
            clear h3 H2 e3 e4
            have CS := hide ((unhide H3).state (j : Int))
            rw [e5] at CS
            clear e5
            go_wp2_with (go_at_call 41; refine (unhide CS).mono ?_; rintro e w3 ⟨rfl, rfl⟩)
            go_roundw
            case rel => exact ⟨j + 1, by omega, by rw [unhide HN]; go_num, by go_num, unhide H3⟩
            case measure => simp [intOf]; omega
          · rw [if_neg (by simp [hb])] at hbit
            have HT : Hid (FHas W wr (fun _ => False) p (tl z (j + 1))) := by rw [tl_none z j hb]; exact unhide HA
            have HN : Hid (cnt z (j + 1) = m) := by show _ = _; rw [cnt_next, if_neg (by simp [hb]), ← unhide HM]; rfl
            clear hb HA
            go_wp2_with fail
            go_roundw
            case rel => exact ⟨j + 1, by omega, by rw [unhide HN], by go_num, unhide HT⟩
            case measure => simp [intOf]; omega
        · obtain ⟨e32⟩ : Nonempty (j = 32) := ⟨by omega⟩
          rw [e32] at HA HM
          have hj32 : ¬ ((j : Int) < 32) := by omega
          clear e32
          generalize (j : Int) = last at hj32 ⊢
          have f1 := tl_full z
          have ea : (tl z 32).allocA = tl z 32 := by unfold Fr.allocA; rw [f1]
          have ee : (tl z 32).allocE = 10 := by unfold Fr.allocE; rw [f1]
          have ev : (tl z 32).allocV = 0 := by unfold Fr.allocV; rw [f1]
          clear hj hlt f1 hmj
          go_wp2_with fail
          refine ((unhide HA).allocate).mono ?_
          rintro e w2 ⟨rfl, h2, -⟩
          rw [ea] at h2
          rw [ee, ev]
          have H2 := hide h2
          clear h2 HA ea ee ev
          go_wp2_with fail
          refine ((unhide H2).settle).mono ?_
          rintro e w3 ⟨rfl, h3, -⟩
          have H3 : Hid (FHas W w3 (fun _ => False) p (ts z)) := h3
          clear h3 H2
          have CL := hide ((unhide H3).left)
          rw [ts_left, ← unhide HM] at CL
          go_wp2_with (go_at_call 39; refine (unhide CL).mono ?_; rintro e w3 ⟨rfl, rfl⟩)
          clear CL HM
          go_loopw [11] (fun i wv => ∃ j : Nat, j ≤ 32 ∧ i = .int .i64 j ∧ FHas W wv (fun _ => False) p (ts z)) (fun i _ => 32 - (intOf i).toNat)
          case atStart => exact ⟨0, by omega, rfl, unhide H3⟩
          case round =>
            clear H3
            obtain ⟨j, hj, rfl, hA⟩ := hrel
            have HA := hide hA
            clear hA
            by_cases hlt : j < 32
            · have hj0 : (0 : Int) ≤ (j : Int) := by omega
              have hj32 : (j : Int) < 32 := by omega
              have hbit := bit_eq z j (unhide HZ).1 (unhide HZ).2
              have CS : Hid (∀ q, Calls Try.prog 41 #[.pointer (some ⟨p, 0, none⟩), .int .i64 (j : Int)] (wr.drewN q) fun e w' => e = .returned (.int .i64 ((ts z).st (j : Int))) ∧ w' = wr.drewN q) := fun q => (drewN_has (unhide HA) q).state (j : Int)
              rw [ts_st z j hlt] at CS
              rcases Bool.eq_false_or_eq_true (bit z j) with hb | hb
              · rw [if_pos hb] at hbit CS
                clear hb
                go_wp2_with fail
                go_quiet ((go_at_call 41; exact Calls.quiet_of_same (unhide CS _)))
                go_wp2_with fail
                go_roundw
                case rel => exact ⟨j + 1, by omega, by go_num, drewN_has (unhide HA) _⟩
                case measure => simp [intOf]; omega
              · rw [if_neg (by simp [hb])] at hbit CS
                clear hb
                go_wp2_with fail
                go_quiet ((go_at_call 41; exact Calls.quiet_of_same (unhide CS _)))
                go_wp2_with fail
                go_roundw
                case rel => exact ⟨j + 1, by omega, by go_num, drewN_has (unhide HA) _⟩
                case measure => simp [intOf]; omega
            · obtain rfl : j = 32 := by omega
              go_wp2_with fail
              go_ret
              exact ⟨rfl, (unhide HA).keeps.below (Nat.le_refl _) (fun _ h => h.elim)⟩

set_option maxRecDepth 100000 in
theorem lifted (os : Os) (started : os.Started) (H : Type) (enc : TypeId × Value → H) :
    ReturnsInHanded {} Try.checked os 8 .any (Rows.framesSettledSpec.pre6 enc Try.prog Try.f8 Rows.framesSettledRow.domain false) (Rows.framesSettledSpec.post enc Try.prog Try.f8 false true false false) := by
  refine law_frame (C := Try.checked) (ts := [32]) (tb := 4) (by kernel_rfl) started (by kernel_rfl) Try.func8 Try.params8 (by kernel_rfl) Try.underlying4 (by kernel_rfl) (by kernel_rfl) rfl ?_
    (ChangeSpec.witness6 (enc := enc) (C := Try.checked) false ⟨#[], #[.int .u64 0], []⟩ 8 (by kernel_rfl) (by kernel_rfl) (by kernel_rfl) (by kernel_rfl)) ?_
  · intro ds hd
    match ds, hd with
    | [d0], _ => rfl
  · intro W base args ds p hval hA
    obtain ⟨v0, vs0, d0, ds0, p0, q0, hargs, rfl, rfl, h0, r0⟩ := trodAll_cons hA
    obtain ⟨rfl, rfl, rfl⟩ := trodAll_nil r0
    obtain rfl : args = #[v0] := by cases args; simp_all
    obtain ⟨z, rfl, rfl, rfl, wz⟩ := open_int Try.underlying32 (hval 0 32 v0 rfl rfl) h0
    exact walk z wz W

theorem over : Rows.framesSettledRow.holds Try.pinned (OpenSpec.ofChange Rows.framesSettledSpec) :=
  OpenClaim.holds_of_wide 8 Try.f8 rfl rfl rfl rfl rfl rfl rfl ⟨rfl, rfl, rfl, rfl, rfl⟩ rfl rfl rfl rfl rfl (by kernel_rfl) Try.func8 (by kernel_rfl)
    (of_decide_eq_true (by kernel_rfl)) (by unfold Func.isWrapper; first | (rw [if_pos (by decide +kernel)]; kernel_rfl) | (rw [if_neg (by decide +kernel)]; exact ⟨rfl, rfl⟩))
    (fun os started H enc _ => lifted os started H enc)

end Go.Proofs.Ytkoaajcfnnpiaaa.framesSettled
namespace Go.Proofs.Ytkoaajcfnnpiaaa
theorem framesSettled_holds : Rows.FramesSettledSaid := framesSettled.over
end Go.Proofs.Ytkoaajcfnnpiaaa
