
/-
  For every entry and every word, EntryBack returns true and leaves its arguments as they were: an entry that may be is read from its word as it was, and a word that is one's is that one's word. No condition.
-/
import Derived.Test.YtdmijjncninlbaaEShown
namespace Go.Proofs.Ytdmijjncninlbaa.entryBack
open Go.ChangeShapes Go.WideShapes Go.ChangeAt Go.RowKit Go.Joins
set_option linter.unusedVariables false
set_option linter.unusedSimpArgs false

set_option maxHeartbeats 4000000 in
set_option maxRecDepth 100000 in
theorem walk (s : En) (x : Int) (hs : IsEn s) (hx : (Lit.int .u64 x).wf = true) (W : World) :
    Calls Try.prog 4 #[.agg (ev s), .int .u64 x] W fun e W' => e = .returned (.bool true) ∧ Below W.heap.size W W' := by
  obtain ⟨h0, h1⟩ := ewf_u hx
  have C1 := hide (eword_any s)
  have C3 := hide (eof_any x h0 h1)
  have C4 := hide (eword_any (onV x))
  have sS : (Try.prog.info? 23).map (·.size) = some (ev s).size := size3
  have sB : (Try.prog.info? 23).map (·.size) = some (ev (onV x)).size := size3
  have nB := ev_new (onV x) 23
  have zB := ev_size (onV x)
  have HY : Hid (isN x = true → wnV (onV x) = x ∧ wnE (onV x) = 0) := fun h => by
    obtain ⟨m1, m2⟩ := isN_may x h
    rw [onV_is x h, wnV_may _ m1, wnE_may _ m1, m2]; exact ⟨rfl, rfl⟩
  generalize wnV (onV x) = V at *
  generalize wnE (onV x) = E at *
  generalize ev (onV x) = B at *
  generalize isN x = p at *
  cases hm : mayN s with
  | true =>
    have hb0 := wordN_bd s hm
    have C2 := hide (eof_any (wordN s) (by omega) (by omega))
    rw [isN_word s hm, onV_word s hm] at C2
    rw [wnV_may s hm, wnE_may s hm] at C1
    obtain ⟨D, hD⟩ : ∃ D, D = ev s := ⟨_, rfl⟩
    have EY : Hid (∀ w, (Op.equalIn 10000 23 (.agg D) (.agg (ev s))).run Try.prog w = .ok true w) := fun w => by rw [hD, equal_en]; simp
    have nD := ev_new s 23
    have zD := ev_size s
    have sD := sS
    rw [← hD] at nD zD sD C2
    clear hD
    generalize ev s = S at *
    generalize wordN s = R at *
    clear hs hx hm
    have O0 := hide ((Own.start W).alloc (.cells S 23))
    go_enter Try.func4, Try.ntmps4
    go_wp2_with fail
    refine (shown8_any _).mono ?_
    rintro e w1 ⟨rfl, hb⟩
    have O1 := hide ((unhide O0).call hb)
    clear hb O0
    have KS := hide ((unhide O1).at W.heap.size (.cells S 23) (by simp))
    go_wp2_with (refine wpList_load_row rfl 23 _ rfl W.heap.size rfl _ _ _ _ (unhide KS) Try.underlying23 rfl sS ?_)
    refine (unhide C1 _).mono ?_
    rintro e w2 ⟨rfl, hb⟩
    have O2 := hide ((unhide O1).call hb)
    clear hb O1 KS
    go_wp2_with fail
    refine (unhide C2 _).mono ?_
    rintro e w3 ⟨rfl, hb⟩
    have O3 := hide (((unhide O2).call hb).alloc (.cells D 23))
    clear hb O2
    have K2 := hide ((unhide O3).at W.heap.size (.cells S 23) (by simp))
    have K8 := hide ((unhide O3).at w3.heap.size (.cells D 23) (by simp))
    go_wp2_with (first | (refine wpList_load_row_g (by rfl) 23 (.tmp 8) rfl w3.heap.size rfl _ _ _ _ (unhide K8) Try.underlying23 rfl sD ?_) | (refine wpList_load_row_g (by rfl) 23 (.tmp 2) rfl W.heap.size rfl _ _ _ _ (unhide K2) Try.underlying23 rfl sS ?_) | (refine wpList_neqA (by rfl) 23 23 (.tmp 31) (.tmp 32) rfl D S rfl rfl en_guard _ (unhide EY) ?_))
    refine (unhide C3 _).mono ?_
    rintro e w4 ⟨rfl, hb⟩
    have O4 := hide (((unhide O3).call hb).alloc (.cells B 23))
    clear hb O3 K2 K8
    have K10 := hide ((unhide O4).at w4.heap.size (.cells B 23) (by simp))
    go_wp2_with (refine wpList_load_row rfl 23 _ rfl w4.heap.size rfl _ _ _ _ (unhide K10) Try.underlying23 rfl sB ?_)
    refine (unhide C4 _).mono ?_
    rintro e w5 ⟨rfl, hb⟩
    have O5 := hide ((unhide O4).call hb)
    clear hb O4 K10
    cases p with
    | false =>
      go_wp2_with fail
      go_ret
      exact ⟨rfl, (unhide O5).below⟩
    | true =>
      obtain ⟨e1, e2⟩ := unhide HY rfl
      have hx2 : (V == x) = true := by simpa using e1
      subst e2
      clear e1
      go_wp2_with fail
      go_ret
      exact ⟨rfl, (unhide O5).below⟩
  | false =>
    have C2 := hide (eof_any 0 (by omega) (by omega))
    rw [show isN 0 = true by decide, show onV 0 = ze by decide] at C2
    rw [wnV_not s hm, wnE_not s hm] at C1
    have nD := ev_new ze 23
    have zD := ev_size ze
    generalize ev s = S at *
    generalize ev ze = D at *
    clear hs hx hm
    have O0 := hide ((Own.start W).alloc (.cells S 23))
    go_enter Try.func4, Try.ntmps4
    go_wp2_with fail
    refine (shown8_any _).mono ?_
    rintro e w1 ⟨rfl, hb⟩
    have O1 := hide ((unhide O0).call hb)
    clear hb O0
    have KS := hide ((unhide O1).at W.heap.size (.cells S 23) (by simp))
    go_wp2_with (refine wpList_load_row rfl 23 _ rfl W.heap.size rfl _ _ _ _ (unhide KS) Try.underlying23 rfl sS ?_)
    refine (unhide C1 _).mono ?_
    rintro e w2 ⟨rfl, hb⟩
    have O2 := hide ((unhide O1).call hb)
    clear hb O1 KS
    go_wp2_with fail
    refine (unhide C2 _).mono ?_
    rintro e w3 ⟨rfl, hb⟩
    have O3 := hide (((unhide O2).call hb).alloc (.cells D 23))
    clear hb O2
    have K2 := hide ((unhide O3).at W.heap.size (.cells S 23) (by simp))
    have K8 := hide ((unhide O3).at w3.heap.size (.cells D 23) (by simp))
    go_wp2_with fail
    refine (unhide C3 _).mono ?_
    rintro e w4 ⟨rfl, hb⟩
    have O4 := hide (((unhide O3).call hb).alloc (.cells B 23))
    clear hb O3 K2 K8
    have K10 := hide ((unhide O4).at w4.heap.size (.cells B 23) (by simp))
    go_wp2_with (refine wpList_load_row rfl 23 _ rfl w4.heap.size rfl _ _ _ _ (unhide K10) Try.underlying23 rfl sB ?_)
    refine (unhide C4 _).mono ?_
    rintro e w5 ⟨rfl, hb⟩
    have O5 := hide ((unhide O4).call hb)
    clear hb O4 K10
    cases p with
    | false =>
      go_wp2_with fail
      go_ret
      exact ⟨rfl, (unhide O5).below⟩
    | true =>
      obtain ⟨e1, e2⟩ := unhide HY rfl
      have hx2 : (V == x) = true := by simpa using e1
      subst e2
      clear e1
      go_wp2_with fail
      go_ret
      exact ⟨rfl, (unhide O5).below⟩

set_option maxRecDepth 100000 in
theorem lifted (os : Os) (started : os.Started) (H : Type) (enc : TypeId × Value → H) :
    ReturnsInHanded {} Try.checked os 4 .any (Rows.entryBackSpec.pre6 enc Try.prog Try.f4 Rows.entryBackRow.domain false) (Rows.entryBackSpec.post enc Try.prog Try.f4 false true false false) := by
  refine law_frame (C := Try.checked) (ts := [23, 24]) (tb := 4) (by kernel_rfl) started (by kernel_rfl) Try.func4 Try.params4 (by kernel_rfl) Try.underlying4 (by kernel_rfl) (by kernel_rfl) rfl ?_
    (ChangeSpec.witness6 (enc := enc) (C := Try.checked) false ⟨#[], #[.agg (ev ze), .int .u64 0], []⟩ 8 (by kernel_rfl) (by kernel_rfl) (by kernel_rfl) (by kernel_rfl)) ?_
  · intro ds hd
    match ds, hd with
    | [d0, d1], _ => rfl
  · intro W base args ds p hval hA
    obtain ⟨v0, vs0, d0, ds0, p0, q0, hargs, rfl, rfl, h0, r0⟩ := trodAll_cons hA
    obtain ⟨v1, vs1, d1, ds1, p1, q1, rfl, rfl, rfl, h1, r1⟩ := trodAll_cons r0
    obtain ⟨rfl, rfl, rfl⟩ := trodAll_nil r1
    obtain rfl : args = #[v0, v1] := by cases args; simp_all
    obtain ⟨s, rfl, hs⟩ := open_en (hval 0 23 v0 rfl rfl) h0
    obtain ⟨x, rfl, rfl, rfl, wx⟩ := open_int Try.underlying24 (hval 1 24 v1 rfl rfl) h1
    exact walk s x hs wx W

theorem over : Rows.entryBackRow.holds Try.pinned (OpenSpec.ofChange Rows.entryBackSpec) :=
  OpenClaim.holds_of_wide 4 Try.f4 rfl rfl rfl rfl rfl rfl rfl ⟨rfl, rfl, rfl, rfl, rfl⟩ rfl rfl rfl rfl rfl (by kernel_rfl) Try.func4 (by kernel_rfl)
    (of_decide_eq_true (by kernel_rfl)) (by unfold Func.isWrapper; first | (rw [if_pos (by decide +kernel)]; kernel_rfl) | (rw [if_neg (by decide +kernel)]; exact ⟨rfl, rfl⟩))
    (fun os started H enc _ => lifted os started H enc)

end Go.Proofs.Ytdmijjncninlbaa.entryBack
namespace Go.Proofs.Ytdmijjncninlbaa
theorem entryBack_holds : Rows.EntryBackSaid := entryBack.over
end Go.Proofs.Ytdmijjncninlbaa
