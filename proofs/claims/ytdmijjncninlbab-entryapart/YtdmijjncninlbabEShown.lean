
/-
  The document's examples, at the head of each statement of layer 8: they hold, and leave what was there as it was; the arguments: entries and pairs by value.
-/
import Derived.Test.YtdmijjncninlbabECalls
import Derived.Test.YtdmijjncninlbabFlat
import Derived.Test.YtdmijjncninlbabLaw
namespace Go.Proofs.Ytdmijjncninlbab
open Go.ChangeShapes Go.WideShapes Go.ChangeAt Go.RowKit Go.Joins
set_option maxRecDepth 100000
set_option linter.unusedVariables false
set_option linter.unusedSimpArgs false

set_option maxHeartbeats 4000000 in
theorem shown8_any (w : World) : Calls Try.prog 4 #[] w fun e w' => e = .returned (.bool true) ∧ Below w.heap.size w w' := by
  have C1 := hide (eword3 1 2 3)
  rw [show wnV ⟨1, 2, 3⟩ = 805306401 by decide, show wnE ⟨1, 2, 3⟩ = 0 by decide] at C1
  have C2 := hide (eof_any 17592991350817 (by decide) (by decide))
  rw [show isN 17592991350817 = false by decide, show onV 17592991350817 = ze by decide] at C2
  have C3 := hide (end3 1 5 9 (by decide) (by decide))
  rw [show endV ⟨1, 5, 9⟩ = ⟨0, 6, 0⟩ by decide, show endE ⟨1, 5, 9⟩ = 0 by decide, show ev ⟨0, 6, 0⟩ = #[.int .i64 0, .int .i64 6, .int .i64 0] from rfl] at C3
  have C4 := hide (end3 0 5 0 (by decide) (by decide))
  rw [show endV ⟨0, 5, 0⟩ = ze by decide, show endE ⟨0, 5, 0⟩ = 30 by decide] at C4
  have C5 := hide (open3 0 16777215 0)
  rw [show opB ⟨0, 16777215, 0⟩ = false by decide] at C5
  have nC := ev_new ze 23
  have zC := ev_size ze
  generalize ev ze = Z at *
  have hor : bits .or .u64 805306401 17592186044416 = 17592991350817 := by decide
  go_enter Try.func4, Try.ntmps4
  go_wp2_with fail
  refine (unhide C1 _).mono ?_
  rintro e w1 ⟨rfl, hb⟩
  have O1 := hide ((Own.start w).call hb)
  clear hb
  go_wp2_with fail
  refine (unhide C2 _).mono ?_
  rintro e w2 ⟨rfl, hb⟩
  have O2 := hide (((unhide O1).call hb).alloc (.cells Z 23))
  clear hb O1
  go_wp2_with fail
  refine (unhide C3 _).mono ?_
  rintro e w3 ⟨rfl, hb⟩
  have O3 := hide (((unhide O2).call hb).alloc (.cells #[.int .i64 0, .int .i64 6, .int .i64 0] 23))
  clear hb O2
  go_wp2_with fail
  refine (unhide C4 _).mono ?_
  rintro e w4 ⟨rfl, hb⟩
  have O4 := hide (((unhide O3).call hb).alloc (.cells Z 23))
  clear hb O3
  have K5 := hide ((unhide O4).at w3.heap.size (.cells #[.int .i64 0, .int .i64 6, .int .i64 0] 23) (by simp))
  have s5 : (Try.prog.info? 23).map (·.size) = some (#[.int .i64 0, .int .i64 6, .int .i64 0] : Array Value).size := size3
  have EQ : Hid (∀ w, (Op.equalIn 10000 23 (.agg #[.int .i64 0, .int .i64 6, .int .i64 0]) (.agg #[.int .i64 0, .int .i64 6, .int .i64 0])).run Try.prog w = .ok true w) := fun w => by
    have := equal_en ⟨0, 6, 0⟩ ⟨0, 6, 0⟩ w
    simpa [ev] using this
  go_wp2_with (first | (with_reducible refine wpList_load_row_g (by with_unfolding_all rfl) 23 (.tmp 5) (by with_unfolding_all rfl) w3.heap.size (by with_unfolding_all rfl) _ _ _ _ (unhide K5) Try.underlying23 (by with_unfolding_all rfl) s5 ?_) | (with_reducible refine wpList_eqlA (by with_unfolding_all rfl) 23 23 (.tmp 41) (.tmp 42) (by with_unfolding_all rfl) #[.int .i64 0, .int .i64 6, .int .i64 0] #[.int .i64 0, .int .i64 6, .int .i64 0] (by with_unfolding_all rfl) (by with_unfolding_all rfl) en_guard _ (unhide EQ) ?_))
  refine (unhide C5 _).mono ?_
  rintro e w5 ⟨rfl, hb⟩
  have O5 := hide ((unhide O4).call hb)
  clear hb O4
  go_wp2_with fail
  go_ret
  exact ⟨rfl, (unhide O5).below⟩

theorem eown_range {W w : World} {L : List (Nat × Obj)} (h : Own W w L) (g : Nat) (cs : List Value) (t : TypeId) (fr : Nat × Nat) (hm : (g, Obj.cells cs.toArray t fr) ∈ L) : w.rangeAt g 0 cs := fun j v hv => by
  rw [cell_of_block (h.at g _ hm), Nat.zero_add]; simpa using hv

/-- A cell of a block of its own is written, the others stay. -/
theorem eown_set {W w : World} {g : Nat} {cs : Array Value} {t : TypeId} {fr : Nat × Nat} {L : List (Nat × Obj)} (h : Own W w ((g, .cells cs t fr) :: L)) (hg : W.heap.size ≤ g) (hL : ∀ p ∈ L, p.1 ≠ g) (i : Nat) (v : Value) : Own W (w.setCell ⟨g, i, none⟩ v) ((g, .cells (cs.setIfInBounds i v) t fr) :: L) :=
  ⟨h.1.setCell (p := ⟨g, i, none⟩) hg _, fun p hp => by
    rcases List.mem_cons.1 hp with rfl | hp
    · exact block_setCell (h.at g _ (List.mem_cons_self ..)) v
    · rw [Below.heap_setCell _ _ _ _ (hL p hp)]; exact h.2 p (List.mem_cons_of_mem _ hp)⟩

/-! ### arguments -/
def IsEn (c : En) : Prop := (Lit.int .i64 c.k).wf = true ∧ (Lit.int .i64 c.v).wf = true ∧ (Lit.int .i64 c.l).wf = true
theorem ewf_u {x : Int} (h : (Lit.int .u64 x).wf = true) : 0 ≤ x ∧ x ≤ 18446744073709551615 := by
  simp [Lit.wf, IntKind.min, IntKind.max, IntKind.signed, IntKind.bits] at h; omega
theorem ewf_i {x : Int} (h : (Lit.int .i64 x).wf = true) : -9223372036854775808 ≤ x ∧ x ≤ 9223372036854775807 := by
  simp [Lit.wf, IntKind.min, IntKind.max, IntKind.signed, IntKind.bits] at h; omega
theorem fit_en : ∀ (vs : List Value), AllFit [some .i64, some .i64, some .i64] vs → ∃ c : En, vs = (ev c).toList ∧ IsEn c
  | [], h => by simp [AllFit] at h
  | [_], h => by simp [AllFit] at h
  | [_, _], h => by simp [AllFit] at h
  | [a, b, c], h => by
    obtain ⟨h1, h2, h3, -⟩ := h
    obtain ⟨x, rfl, w1⟩ := h1
    obtain ⟨y, rfl, w2⟩ := h2
    obtain ⟨z, rfl, w3⟩ := h3
    exact ⟨⟨x, y, z⟩, rfl, w1, w2, w3⟩
  | _ :: _ :: _ :: _ :: _, h => by simp [AllFit] at h
theorem open_en {H : Type} {enc : TypeId × Value → H} {W : World} {r : Reach} {b0 base : Nat} {sp : Nat → Bool} {hd : Bool} {v : Value} {d : DataW H} {p : List MemPlace}
    (hv : Value.okWide Try.prog W r b0 23 v) (h : DataW.Trod enc Try.prog W base sp hd 23 v d p) : ∃ x : En, v = .agg (ev x) ∧ IsEn x := by
  obtain ⟨cs, rfl, hfit⟩ := flat_open 3 (ks := [some .i64, some .i64, some .i64]) (by kernel_rfl) (Or.inl ⟨_, Try.underlying23⟩) hv h
  obtain ⟨x, hx, hw⟩ := fit_en cs.toList hfit
  refine ⟨x, ?_, hw⟩
  congr 1
  rw [← Array.toArray_toList (xs := cs), hx]

end Go.Proofs.Ytdmijjncninlbab
