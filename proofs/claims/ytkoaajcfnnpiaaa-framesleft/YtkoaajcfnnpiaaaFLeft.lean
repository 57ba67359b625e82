/-
  For every two numbers, FramesLeft returns true: what is taken is one less, and freed one more; what is to be free later is not, till it is settled. No condition.
-/
import Derived.Test.YtkoaajcfnnpiaaaFHas
import Derived.Test.YtkoaajcfnnpiaaaLaw
import Derived.Test.YtkoaajcfnnpiaaaRows
namespace Go.Proofs.Ytkoaajcfnnpiaaa.framesLeft
open Go.ChangeShapes Go.WideShapes Go.ChangeAt Go.RowKit Go.Joins
set_option linter.unusedVariables false
set_option linter.unusedSimpArgs false

/-- The first k of sixteen are taken. -/
def tk (k : Nat) : Fr := ⟨0, 16, fun j => if j < k then 1 else 0⟩
theorem tk_zero : tk 0 = Fr.new 0 16 := by unfold tk Fr.new; congr 1
theorem tk_next (i : Nat) (hi : i < 16) : (tk i).allocA = tk (i + 1) ∧ (tk i).allocV = (i : Int) ∧ (tk i).allocE = 0 := by
  have hf : (tk i).first = some i := first_some hi (fr_iff.2 ⟨Nat.zero_le _, by simp [tk]⟩) (fun j hj => fr_false.2 fun q => by have := q.2; simp [tk, hj] at this)
  refine ⟨?_, by unfold Fr.allocV; rw [hf], by unfold Fr.allocE; rw [hf]⟩
  unfold Fr.allocA
  rw [hf]
  show Fr.put (tk i) i 1 = _
  unfold Fr.put tk
  congr 1
  funext j
  by_cases h : j = i
  · subst h; rw [upd_same, if_pos (by omega)]
  · rw [upd_other _ _ _ _ h]
    by_cases h2 : j < i
    · rw [if_pos (by omega)]; simp [h2]
    · rw [if_neg (by omega)]; simp [h2]
theorem tk_left : ∀ i, i < 17 → (tk i).left = 16 - i := by decide +kernel
theorem none_taken : (tk 0).turnE 0 1 = 3 := by decide +kernel
def b1 (k x : Nat) : Fr := (tk k).turnA (x : Int) 1 2
def b2 (k x : Nat) : Fr := (b1 k x).turnA (x : Int) 1 0
def b3 (k x : Nat) : Fr := (b2 k x).settle
def b4 (k x : Nat) : Fr := (b3 k x).turnA (x : Int) 0 1
theorem facts : ∀ k, k < 17 → ∀ x, x < k → (tk k).turnE (x : Int) 1 = 0 ∧ (b1 k x).left = 16 - k ∧ (b1 k x).turnE (x : Int) 1 = 3 ∧ (b3 k x).left = 17 - k ∧ (b3 k x).st (x : Int) = 0 ∧ (b3 k x).turnE (x : Int) 0 = 0 ∧ (b4 k x).turnE (x : Int) 0 = 3 := by decide +kernel

set_option maxRecDepth 100000 in
theorem walk (n which : Int) (wn : (Lit.int .i64 n).wf = true) (ww : (Lit.int .i64 which).wf = true) (W : World) :
    Calls Try.prog 6 #[.int .i64 n, .int .i64 which] W fun e W' => e = .returned (.bool true) ∧ Below W.heap.size W W' := by
  have hn := fin64_wf wn
  have hw := fin64_wf ww
  obtain ⟨k, hk⟩ : ∃ k, k = fkN n 17 := ⟨_, rfl⟩
  have hk17 : k < 17 := by rw [hk]; exact fkN_lt _ _ (by decide)
  have CK : Hid (∀ w, Calls Try.prog 27 #[.int .i64 n, .int .i64 17] w fun e w' => e = .returned (.int .i64 (k : Int)) ∧ w' = w) := fun w => by rw [hk]; exact fkind_any n hn 17 (by decide) (by decide) w
  clear hk hn wn
  go_enter Try.func6, Try.ntmps6
  go_wp2_with fail
  refine (fshown_any W).mono ?_
  rintro e w0 ⟨rfl, hk0⟩
  go_wp2_with fail
  refine (fnew_any w0 0 16 (by decide) (by decide)).mono ?_
  intro e w1 hm
  obtain ⟨p, rfl, h0, -⟩ := fmade_has W hk0 (new_ok (by decide) (by decide)) hm (fun _ => False) (fun _ h => h.elim)
  rw [← tk_zero] at h0
  have H0 := hide h0
  clear hm h0 hk0
  go_wp2_with fail
  refine (unhide CK _).mono ?_
  rintro e w1 ⟨rfl, rfl⟩
  clear CK
  go_wp2_with fail
  go_loopw [9] (fun i wr => ∃ j : Nat, j ≤ k ∧ i = .int .i64 j ∧ FHas W wr (fun _ => False) p (tk j)) (fun i _ => k - (intOf i).toNat)
  case atStart => exact ⟨0, by omega, rfl, unhide H0⟩
  case round =>
    clear H0
    obtain ⟨j, hj, rfl, hA⟩ := hrel
    have HA := hide hA
    clear hA
    by_cases hlt : j < k
    · obtain ⟨e1, e2, e3⟩ := tk_next j (by omega)
      have HL := hide (tk_left (j + 1) (by omega))
      have hjk : (j : Int) < (k : Int) := by omega
      go_wp2_with fail
      refine ((unhide HA).allocate).mono ?_
      rintro e w2 ⟨rfl, h2, -⟩
      rw [e1] at h2
      rw [e2, e3]
      have H2 := hide h2
      clear h2 HA e1 e2 e3
      have HC := hide ((unhide H2).left)
      rw [unhide HL] at HC
      have hq : ((16 - (j + 1) : Nat) : Int) = 15 - (j : Int) := by omega
      rw [hq] at HC
      clear hq HL
      go_wp2_with (go_at_call 39; refine (unhide HC).mono ?_; rintro e w2 ⟨rfl, rfl⟩)
      go_roundw
      case rel => exact ⟨j + 1, by omega, by go_num, unhide H2⟩
      case measure => simp [intOf]; omega
    · obtain rfl : j = k := by omega
      by_cases h0 : j = 0
      · subst h0
        go_wp2_with fail
        refine ((unhide HA).free 0).mono ?_
        rintro e w2 ⟨rfl, h2, -⟩
        rw [none_taken]
        have HK := hide h2.keeps
        clear h2
        go_wp2_with fail
        go_ret
        exact ⟨rfl, (unhide HK).below (Nat.le_refl _) (fun _ h => h.elim)⟩
      · have hz : ((j : Int) == 0) = false := by simp; omega
        obtain ⟨x, hx⟩ : ∃ x, x = fkN which j := ⟨_, rfl⟩
        have hxj : x < j := by rw [hx]; exact fkN_lt _ _ (by omega)
        have CX : Hid (∀ w, Calls Try.prog 27 #[.int .i64 which, .int .i64 (j : Int)] w fun e w' => e = .returned (.int .i64 (x : Int)) ∧ w' = w) := fun w => by rw [hx]; exact fkind_any which hw j (by omega) (by omega) w
        have HF := hide (facts j hk17 x hxj)
        clear hx hw ww
        go_wp2_with fail
        refine (unhide CX _).mono ?_
        rintro e wr ⟨rfl, rfl⟩
        go_wp2_with fail
        refine ((unhide HA).later (x : Int)).mono ?_
        rintro e w2 ⟨rfl, h2, -⟩
        have H2 : Hid (FHas W w2 (fun _ => False) p (b1 j x)) := h2
        clear h2 HA CX
        rw [(unhide HF).1]
        go_wp2_with fail
        refine ((unhide H2).left).mono ?_
        rintro e w2 ⟨rfl, rfl⟩
        rw [(unhide HF).2.1]
        go_wp2_with fail
        refine ((unhide H2).free (x : Int)).mono ?_
        rintro e w3 ⟨rfl, h3, -⟩
        have H3 : Hid (FHas W w3 (fun _ => False) p (b2 j x)) := h3
        clear h3 H2
        rw [(unhide HF).2.2.1]
        go_wp2_with fail
        refine ((unhide H3).settle).mono ?_
        rintro e w4 ⟨rfl, h4, -⟩
        have H4 : Hid (FHas W w4 (fun _ => False) p (b3 j x)) := h4
        clear h4 H3
        have q1 : ((16 - j : Nat) : Int) = 16 - (j : Int) := by omega
        rw [q1]
        have q2 : ((17 - j : Nat) : Int) = 17 - (j : Int) := by omega
        have CL := hide ((unhide H4).left)
        rw [(unhide HF).2.2.2.1, q2] at CL
        have CS := hide ((unhide H4).state (x : Int))
        rw [(unhide HF).2.2.2.2.1] at CS
        clear q1 q2
        go_wp2_with (first | (go_at_call 39; refine (unhide CL).mono ?_; rintro e w4 ⟨rfl, rfl⟩) | (go_at_call 41; refine (unhide CS).mono ?_; rintro e w4 ⟨rfl, rfl⟩))
        refine ((unhide H4).take (x : Int)).mono ?_
        rintro e w5 ⟨rfl, h5, -⟩
        have H5 : Hid (FHas W w5 (fun _ => False) p (b4 j x)) := h5
        clear h5 H4 CL CS
        rw [(unhide HF).2.2.2.2.2.1]
        go_wp2_with fail
        refine ((unhide H5).take (x : Int)).mono ?_
        rintro e w6 ⟨rfl, h6, -⟩
        have HK := hide h6.keeps
        clear h6 H5
        rw [(unhide HF).2.2.2.2.2.2]
        go_wp2_with fail
        go_ret
        exact ⟨rfl, (unhide HK).below (Nat.le_refl _) (fun _ h => h.elim)⟩

set_option maxRecDepth 100000 in
theorem lifted (os : Os) (started : os.Started) (H : Type) (enc : TypeId × Value → H) :
    ReturnsInHanded {} Try.checked os 6 .any (Rows.framesLeftSpec.pre6 enc Try.prog Try.f6 Rows.framesLeftRow.domain false) (Rows.framesLeftSpec.post enc Try.prog Try.f6 false true false false) := by
  refine law_frame (C := Try.checked) (ts := [3, 3]) (tb := 4) (by kernel_rfl) started (by kernel_rfl) Try.func6 Try.params6 (by kernel_rfl) Try.underlying4 (by kernel_rfl) (by kernel_rfl) rfl ?_
    (ChangeSpec.witness6 (enc := enc) (C := Try.checked) false ⟨#[], #[.int .i64 0, .int .i64 0], []⟩ 8 (by kernel_rfl) (by kernel_rfl) (by kernel_rfl) (by kernel_rfl)) ?_
  · intro ds hd
    match ds, hd with
    | [d0, d1], _ => rfl
  · intro W base args ds p hval hA
    obtain ⟨v0, vs0, d0, ds0, p0, q0, hargs, rfl, rfl, h0, r0⟩ := trodAll_cons hA
    obtain ⟨v1, vs1, d1, ds1, p1, q1, rfl, rfl, rfl, h1, r1⟩ := trodAll_cons r0
    obtain ⟨rfl, rfl, rfl⟩ := trodAll_nil r1
    obtain rfl : args = #[v0, v1] := by cases args; simp_all
    obtain ⟨n, rfl, rfl, rfl, wn⟩ := open_int Try.underlying3 (hval 0 3 v0 rfl rfl) h0
    obtain ⟨which, rfl, rfl, rfl, wwhich⟩ := open_int Try.underlying3 (hval 1 3 v1 rfl rfl) h1
    exact walk n which wn wwhich W

theorem over : Rows.framesLeftRow.holds Try.pinned (OpenSpec.ofChange Rows.framesLeftSpec) :=
  OpenClaim.holds_of_wide 6 Try.f6 rfl rfl rfl rfl rfl rfl rfl ⟨rfl, rfl, rfl, rfl, rfl⟩ rfl rfl rfl rfl rfl (by kernel_rfl) Try.func6 (by kernel_rfl)
    (of_decide_eq_true (by kernel_rfl)) (by unfold Func.isWrapper; first | (rw [if_pos (by decide +kernel)]; kernel_rfl) | (rw [if_neg (by decide +kernel)]; exact ⟨rfl, rfl⟩))
    (fun os started H enc _ => lifted os started H enc)

end Go.Proofs.Ytkoaajcfnnpiaaa.framesLeft
namespace Go.Proofs.Ytkoaajcfnnpiaaa
theorem framesLeft_holds : Rows.FramesLeftSaid := framesLeft.over
end Go.Proofs.Ytkoaajcfnnpiaaa
