
/-
  For every entry and every word, EntryWords returns true and leaves its arguments as they were: any entry's word is the document's, or refused, and any word is one's, or none's. No condition.
-/
import Derived.Test.YtdmijjncninlbaaEShown
import Derived.Test.YtdmijjncninlbaaERef
namespace Go.Proofs.Ytdmijjncninlbaa.entryWords
open Go.ChangeShapes Go.WideShapes Go.ChangeAt Go.RowKit Go.Joins
set_option linter.unusedVariables false
set_option linter.unusedSimpArgs false

set_option maxHeartbeats 4000000 in
set_option maxRecDepth 100000 in
theorem walk (s : En) (x : Int) (hs : IsEn s) (hx : (Lit.int .u64 x).wf = true) (W : World) :
    Calls Try.prog 3 #[.agg (ev s), .int .u64 x] W fun e W' => e = .returned (.bool true) ∧ Below W.heap.size W W' := by
  obtain ⟨h0, h1⟩ := ewf_u hx
  have C1 := hide (eword_any s)
  have C2 := hide (reword_any s)
  have C3 := hide (eof_any x h0 h1)
  have C4 := hide (reof_any x h0 h1)
  have sS : (Try.prog.info? 23).map (·.size) = some (ev s).size := size3
  have sY : (Try.prog.info? 23).map (·.size) = some (ev (onV x)).size := size3
  have nY := ev_new (onV x) 23
  have zY := ev_size (onV x)
  have EY : Hid (∀ w, (Op.equalIn 10000 23 (.agg (ev (onV x))) (.agg (ev (onV x)))).run Try.prog w = .ok true w) := fun w => by rw [equal_en]; simp
  generalize wnV s = V at *
  generalize wnE s = E at *
  generalize ev (onV x) = Y at *
  generalize isN x = p at *
  generalize ev s = S at *
  clear hs hx
  have O0 := hide ((Own.start W).alloc (.cells S 23))
  go_enter Try.func3, Try.ntmps3
  go_wp2_with fail
  refine (shown8_any _).mono ?_
  rintro e w1 ⟨rfl, hb⟩
  have O1 := hide ((unhide O0).call hb)
  clear hb O0
  have KS := hide ((unhide O1).at W.heap.size (.cells S 23) (by simp))
  go_wp2_with (refine wpList_load_row rfl 23 _ rfl W.heap.size rfl _ _ _ _ (unhide KS) Try.underlying23 rfl sS ?_)
  refine (unhide C1 _).mono ?_
  rintro e w2 ⟨rfl, hb⟩
  have O2 := hide ((unhide O1).call hb)
  clear hb O1 KS
  have KS := hide ((unhide O2).at W.heap.size (.cells S 23) (by simp))
  go_wp2_with (refine wpList_load_row rfl 23 _ rfl W.heap.size rfl _ _ _ _ (unhide KS) Try.underlying23 rfl sS ?_)
  refine (unhide C2 _).mono ?_
  rintro e w3 ⟨rfl, hb⟩
  have O3 := hide ((unhide O2).call hb)
  clear hb O2 KS
  go_wp2_with fail
  refine (unhide C3 _).mono ?_
  rintro e w4 ⟨rfl, hb⟩
  have O4 := hide (((unhide O3).call hb).alloc (.cells Y 23))
  clear hb O3
  go_wp2_with fail
  refine (unhide C4 _).mono ?_
  rintro e w5 ⟨rfl, hb⟩
  have O5 := hide (((unhide O4).call hb).alloc (.cells Y 23))
  clear hb O4
  have K10 := hide ((unhide O5).at w4.heap.size (.cells Y 23) (by simp))
  have K12 := hide ((unhide O5).at w5.heap.size (.cells Y 23) (by simp))
  have hp : (p == p) = true := by simp
  have hE : (E == E) = true := by simp
  have hV : (V == V) = true := by simp
  go_wp2_with (first | (refine wpList_load_row_g (by rfl) 23 (.tmp 10) rfl w4.heap.size rfl _ _ _ _ (unhide K10) Try.underlying23 rfl sY ?_) | (refine wpList_load_row_g (by rfl) 23 (.tmp 12) rfl w5.heap.size rfl _ _ _ _ (unhide K12) Try.underlying23 rfl sY ?_) | (refine wpList_eqlA (by rfl) 23 23 (.tmp 47) (.tmp 48) rfl Y Y rfl rfl en_guard _ (unhide EY) ?_))
  go_ret
  exact ⟨rfl, (unhide O5).below⟩

set_option maxRecDepth 100000 in
theorem lifted (os : Os) (started : os.Started) (H : Type) (enc : TypeId × Value → H) :
    ReturnsInHanded {} Try.checked os 3 .any (Rows.entryWordsSpec.pre6 enc Try.prog Try.f3 Rows.entryWordsRow.domain false) (Rows.entryWordsSpec.post enc Try.prog Try.f3 false true false false) := by
  refine law_frame (C := Try.checked) (ts := [23, 24]) (tb := 4) (by kernel_rfl) started (by kernel_rfl) Try.func3 Try.params3 (by kernel_rfl) Try.underlying4 (by kernel_rfl) (by kernel_rfl) rfl ?_
    (ChangeSpec.witness6 (enc := enc) (C := Try.checked) false ⟨#[], #[.agg (ev ze), .int .u64 0], []⟩ 8 (by kernel_rfl) (by kernel_rfl) (by kernel_rfl) (by kernel_rfl)) ?_
  · intro ds hd
    match ds, hd with
    | [d0, d1], _ => rfl
  · intro W base args ds p hval hA
    obtain ⟨v0, vs0, d0, ds0, p0, q0, hargs, rfl, rfl, h0, r0⟩ := trodAll_cons hA
    obtain ⟨v1, vs1, d1, ds1, p1, q1, rfl, rfl, rfl, h1, r1⟩ := trodAll_cons r0
    obtain ⟨rfl, rfl, rfl⟩ := trodAll_nil r1
    obtain rfl : args = #[v0, v1] := by cases args; simp_all
    obtain ⟨s, rfl, hs⟩ := open_en (hval 0 23 v0 rfl rfl) h0
    obtain ⟨x, rfl, rfl, rfl, wx⟩ := open_int Try.underlying24 (hval 1 24 v1 rfl rfl) h1
    exact walk s x hs wx W

theorem over : Rows.entryWordsRow.holds Try.pinned (OpenSpec.ofChange Rows.entryWordsSpec) :=
  OpenClaim.holds_of_wide 3 Try.f3 rfl rfl rfl rfl rfl rfl rfl ⟨rfl, rfl, rfl, rfl, rfl⟩ rfl rfl rfl rfl rfl (by kernel_rfl) Try.func3 (by kernel_rfl)
    (of_decide_eq_true (by kernel_rfl)) (by unfold Func.isWrapper; first | (rw [if_pos (by decide +kernel)]; kernel_rfl) | (rw [if_neg (by decide +kernel)]; exact ⟨rfl, rfl⟩))
    (fun os started H enc _ => lifted os started H enc)

end Go.Proofs.Ytdmijjncninlbaa.entryWords
namespace Go.Proofs.Ytdmijjncninlbaa
theorem entryWords_holds : Rows.EntryWordsSaid := entryWords.over
end Go.Proofs.Ytdmijjncninlbaa
