
/-
  super's Best, and the document's: what it returns for whatever two lines; nothing that was there turns.
-/
import Derived.Test.YtmmgacpipcgkdabSCalls
namespace Go.Proofs.Ytmmgacpipcgkdab
open Go.ChangeShapes Go.WideShapes Go.ChangeAt Go.RowKit Go.Joins
set_option maxRecDepth 10000
set_option linter.unusedVariables false
set_option linter.unusedSimpArgs false

theorem results_three {fn : Func} {p u x : Tmp} {P : Program} {ty : TypeId} (h : fn.results = #[.cell p ty, .tmp u, .tmp x]) (tmps : Array Value) (w : World) (g : Nat) (t : TypeId) (cs : Array Value) (fr : Nat × Nat) (d : TypeDesc) (v v' : Value)
    (hp : tmps.getD p undef = .pointer (some ⟨g, 0, none⟩)) (hv : tmps.getD u undef = v) (hx : tmps.getD x undef = v') (hg : w.heap[g]? = some (.cells cs t fr))
    (hu : P.underlying ty = some d) (hd : (match d with | .struct _ | .array _ _ => true | _ => false) = true) (hi : (P.info? ty).map (·.size) = some cs.size) :
    (results fn tmps).run P w = .ok (.tuple #[.agg cs, v, v']) w := by
  have e : (results fn tmps).run P w = ((asAddr (tmps.getD p undef)).run P w).andThen fun a w₁ => ((loadVar ty a).run P w₁).andThen fun y w₂ => .ok (.tuple #[y, tmps.getD u undef, tmps.getD x undef]) w₂ := by
    simp only [results, h]
    simp [Sem.run_bind, Result.andThen]
  rw [e, hp, hv, hx]
  simp [asAddr, run_loadVar_row w g t ty cs fr d hg hu hd hi]

set_option maxHeartbeats 4000000 in
theorem best_parts (a b : List Int) (ha : a.length = 8) (hb : b.length = 8) (sa sb : List Int) (pa pb : Bool) (la : sa.length = 4) (lb : sb.length = 4) (w : World)
    (RA : Hid (∀ w, Calls Try.prog 8 #[.agg (iv .u64 a)] w fun e w' => e = .returned (.tuple #[.agg (iv .i64 sa), .bool pa]) ∧ Below w.heap.size w w'))
    (RB : Hid (∀ w, Calls Try.prog 8 #[.agg (iv .u64 b)] w fun e w' => e = .returned (.tuple #[.agg (iv .i64 sb), .bool pb]) ∧ Below w.heap.size w w'))
    (y : Bool) (hy : y = (pb && (!pa || decide (sb.getD 0 0 > sa.getD 0 0)))) :
    Calls Try.prog 10 #[.agg (iv .u64 a), .agg (iv .u64 b)] w fun e w' => e = .returned (.tuple #[.agg (iv .i64 (if y then sb else sa)), .int .i64 (if y then 1 else 0), .bool (if y then true else pa)]) ∧ Below w.heap.size w w' := by
  have G3 := hide (fun A B C : Obj => heap3 w A B C)
  have GB := hide (fun A B C : Obj => below_alloc3 w A B C)
  obtain ⟨SX, hSX⟩ : ∃ X, X = if y then sb else sa := ⟨_, rfl⟩
  obtain ⟨AX, hAX⟩ : ∃ X : Int, X = if y then 1 else 0 := ⟨_, rfl⟩
  obtain ⟨IX, hIX⟩ : ∃ X, X = if y then true else pa := ⟨_, rfl⟩
  have s8a : (Try.prog.info? 28).map (·.size) = some (iv .u64 a).size := by rw [iv_size, ha]; exact size8
  have s8b : (Try.prog.info? 28).map (·.size) = some (iv .u64 b).size := by rw [iv_size, hb]; exact size8
  have h4 : SX.length = 4 := by rw [hSX]; split <;> assumption
  have s4 : (Try.prog.info? 23).map (·.size) = some (iv .i64 SX).size := by rw [iv_size, h4]; exact size4
  rw [← hSX, ← hAX, ← hIX]
  have HSX := hide hSX
  have HAX := hide hAX
  have HIX := hide hIX
  have HY := hide hy
  clear hSX hAX hIX hy
  go_enter Try.func10, Try.ntmps10
  go_wp2_with (refine wpList_load_row rfl 28 _ rfl _ rfl _ _ _ _ (unhide G3 _ _ _).1 Try.underlying28 rfl s8a ?_)
  refine (unhide RA _).mono ?_
  rintro e w1 ⟨rfl, hb1⟩
  have hsz : w.heap.size + 1 + 1 + 1 ≤ w1.heap.size := by have := hb1.size; simpa using this
  have K0 := hide ((hb1.block (w.heap.size + 1) (by simp)).trans (unhide G3 _ _ _).2.1)
  have K1 := hide ((hb1.block (w.heap.size + 1 + 1) (by simp)).trans (unhide G3 _ _ _).2.2)
  have Hb := hide ((unhide GB _ _ _).trans (hb1.mono (by simp; omega)))
  clear hb1 G3 GB RA
  rw [zero4] at K1
  have hla : (iv .i64 sa).size = 4 := by rw [iv_size, la]
  have hlb : (iv .i64 sb).size = 4 := by rw [iv_size, lb]
  obtain ⟨B, hB⟩ : ∃ B, B = w.heap.size := ⟨_, rfl⟩
  rw [← hB] at hsz K0 K1 ⊢
  have HB := hide hB
  clear hB
  have hst : ∀ (W : World) (C : Array Value), C.size = 4 → Sem.run Try.prog (storeCells ⟨W.heap.size, 0, none⟩ (iv .i64 sa).toList) (W.alloc (.cells C 23)) = .ok () (W.alloc (.cells (iv .i64 sa) 23)) :=
    fun W C hC => run_store_new _ _ rfl C _ _ (by rw [hC, hla]) (iv_one _ _)
  have L0 := hide ((Below.heap_alloc w1 (.cells (iv .i64 sa) 23) (B + 1) (by omega)).trans (unhide K0))
  have L1 := hide ((Below.heap_alloc w1 (.cells (iv .i64 sa) 23) (B + 1 + 1) (by omega)).trans (unhide K1))
  have L2 := hide (heap_new w1 (.cells (iv .i64 sa) 23))
  have Hb2 := hide ((unhide Hb).alloc (by have := unhide HB; omega) (.cells (iv .i64 sa) 23))
  go_wp2_with (refine wpList_load_row rfl 28 _ rfl _ rfl _ _ _ _ (unhide L0) Try.underlying28 rfl s8b ?_)
  refine (unhide RB _).mono ?_
  rintro e w2 ⟨rfl, hb2⟩
  have hsz2 : w1.heap.size + 1 ≤ w2.heap.size := by have := hb2.size; simpa using this
  have M1 := hide ((hb2.block (B + 1 + 1) (by simp; omega)).trans (unhide L1))
  have M2 := hide ((hb2.block w1.heap.size (by simp)).trans (unhide L2))
  have Hb3 := hide ((unhide Hb2).trans (hb2.mono (by have := unhide HB; simp; omega)))
  obtain ⟨g7, hg7⟩ : ∃ g, g = w1.heap.size := ⟨_, rfl⟩
  rw [← hg7] at M2 hsz2 hsz ⊢
  clear hb2 L0 L1 L2 Hb2 K0 K1 Hb hst RB hg7
  clear w1
  have hst : ∀ (W : World) (C : Array Value), C.size = 4 → Sem.run Try.prog (storeCells ⟨W.heap.size, 0, none⟩ (iv .i64 sb).toList) (W.alloc (.cells C 23)) = .ok () (W.alloc (.cells (iv .i64 sb) 23)) :=
    fun W C hC => run_store_new _ _ rfl C _ _ (by rw [hC, hlb]) (iv_one _ _)
  have K2 := hide ((Below.heap_alloc w2 (.cells (iv .i64 sb) 23) (B + 1 + 1) (by omega)).trans (unhide M1))
  have K7 := hide ((Below.heap_alloc w2 (.cells (iv .i64 sb) 23) g7 (by omega)).trans (unhide M2))
  have K9 := hide (heap_new w2 (.cells (iv .i64 sb) 23))
  have Hb := hide ((unhide Hb3).alloc (by have := unhide HB; omega) (.cells (iv .i64 sb) 23))
  have c7 : (w2.alloc (.cells (iv .i64 sb) 23)).cell? ⟨g7, 0, none⟩ = some (.int .i64 (sa.getD 0 0)) := by rw [cell_of_block (unhide K7), iv_get _ _ _ (by omega)]
  have c9 : (w2.alloc (.cells (iv .i64 sb) 23)).cell? ⟨w2.heap.size, 0, none⟩ = some (.int .i64 (sb.getD 0 0)) := by rw [cell_of_block (unhide K9), iv_get _ _ _ (by omega)]
  clear Hb3 M1 M2
  have hy := unhide HY
  generalize sa.getD 0 0 = xa at *
  generalize sb.getD 0 0 = xb at *
  cases pb with
  | false =>
    obtain rfl : y = false := by simpa using hy
    obtain rfl : SX = sa := by simpa using unhide HSX
    obtain rfl : AX = 0 := by simpa using unhide HAX
    obtain rfl : IX = pa := by simpa using unhide HIX
    clear HSX HAX HIX HY hy
    have KX := K7
    go_wp2_with (first | (refine wpList_load_row rfl 23 _ rfl _ rfl _ _ _ _ (unhide KX) Try.underlying23 rfl s4 ?_) | (refine wpList_store_row rfl 23 _ _ rfl (B + 1 + 1) (iv .i64 SX) rfl rfl _ _ (unhide K2) s4 (by rw [iv_size, iv_size, h4]; rfl) (iv_one _ _) ?_))
    refine bodyPost_ret (v := .tuple #[.agg (iv .i64 SX), _, _]) (results_three Try.results10 _ _ (B + 1 + 1) 23 (iv .i64 SX) (0, 0) _ _ _ rfl rfl rfl (setRow_heap _ _ _ _ _ _ (unhide K2)) Try.underlying23 rfl s4) rfl ?_
    exact ⟨rfl, below_row (unhide Hb) (by rw [unhide HB]; omega) _⟩
  | true =>
    cases pa with
    | false =>
      obtain rfl : y = true := by simpa using hy
      obtain rfl : SX = sb := by simpa using unhide HSX
      obtain rfl : AX = 1 := by simpa using unhide HAX
      obtain rfl : IX = true := by simpa using unhide HIX
      clear HSX HAX HIX HY hy
      have KX := K9
      go_wp2_with (first | (refine wpList_load_row rfl 23 _ rfl _ rfl _ _ _ _ (unhide KX) Try.underlying23 rfl s4 ?_) | (refine wpList_store_row rfl 23 _ _ rfl (B + 1 + 1) (iv .i64 SX) rfl rfl _ _ (unhide K2) s4 (by rw [iv_size, iv_size, h4]; rfl) (iv_one _ _) ?_))
      refine bodyPost_ret (v := .tuple #[.agg (iv .i64 SX), _, _]) (results_three Try.results10 _ _ (B + 1 + 1) 23 (iv .i64 SX) (0, 0) _ _ _ rfl rfl rfl (setRow_heap _ _ _ _ _ _ (unhide K2)) Try.underlying23 rfl s4) rfl ?_
      exact ⟨rfl, below_row (unhide Hb) (by rw [unhide HB]; omega) _⟩
    | true =>
      by_cases hg : xb > xa
      · obtain rfl : y = true := by simpa [hg] using hy
        obtain rfl : SX = sb := by simpa using unhide HSX
        obtain rfl : AX = 1 := by simpa using unhide HAX
        obtain rfl : IX = true := by simpa using unhide HIX
        clear HSX HAX HIX HY hy
        have KX := K9
        go_wp2_with (first | (refine wpList_load_row rfl 23 _ rfl _ rfl _ _ _ _ (unhide KX) Try.underlying23 rfl s4 ?_) | (refine wpList_store_row rfl 23 _ _ rfl (B + 1 + 1) (iv .i64 SX) rfl rfl _ _ (unhide K2) s4 (by rw [iv_size, iv_size, h4]; rfl) (iv_one _ _) ?_))
        refine bodyPost_ret (v := .tuple #[.agg (iv .i64 SX), _, _]) (results_three Try.results10 _ _ (B + 1 + 1) 23 (iv .i64 SX) (0, 0) _ _ _ rfl rfl rfl (setRow_heap _ _ _ _ _ _ (unhide K2)) Try.underlying23 rfl s4) rfl ?_
        exact ⟨rfl, below_row (unhide Hb) (by rw [unhide HB]; omega) _⟩
      · obtain rfl : y = false := by rw [hy]; simpa using hg
        obtain rfl : SX = sa := by simpa using unhide HSX
        obtain rfl : AX = 0 := by simpa using unhide HAX
        obtain rfl : IX = true := by simpa using unhide HIX
        clear HSX HAX HIX HY hy
        have KX := K7
        go_wp2_with (first | (refine wpList_load_row rfl 23 _ rfl _ rfl _ _ _ _ (unhide KX) Try.underlying23 rfl s4 ?_) | (refine wpList_store_row rfl 23 _ _ rfl (B + 1 + 1) (iv .i64 SX) rfl rfl _ _ (unhide K2) s4 (by rw [iv_size, iv_size, h4]; rfl) (iv_one _ _) ?_))
        refine bodyPost_ret (v := .tuple #[.agg (iv .i64 SX), _, _]) (results_three Try.results10 _ _ (B + 1 + 1) 23 (iv .i64 SX) (0, 0) _ _ _ rfl rfl rfl (setRow_heap _ _ _ _ _ _ (unhide K2)) Try.underlying23 rfl s4) rfl ?_
        exact ⟨rfl, below_row (unhide Hb) (by rw [unhide HB]; omega) _⟩
theorem best_any (a b : List Int) (ha : a.length = 8 ∧ ∀ z ∈ a, (Lit.int .u64 z).wf = true) (hb : b.length = 8 ∧ ∀ z ∈ b, (Lit.int .u64 z).wf = true) (w : World) :
    Calls Try.prog 10 #[.agg (iv .u64 a), .agg (iv .u64 b)] w fun e w' => e = .returned (.tuple #[.agg (iv .i64 (bestV a b)), .int .i64 (bestAt a b), .bool (bestIs a b)]) ∧ Below w.heap.size w w' :=
  best_parts a b ha.1 hb.1 (readV a) (readV b) (isS a) (isS b) (readV_len a) (readV_len b) w (fun w => read_any a ha.1 ha.2 w) (fun w => read_any b hb.1 hb.2 w) (bestB a b) rfl

end Go.Proofs.Ytmmgacpipcgkdab
