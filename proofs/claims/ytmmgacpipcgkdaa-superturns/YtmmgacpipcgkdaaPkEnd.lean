import Derived.Test.YtmmgacpipcgkdaaProg
import Derived.Test.YtmmgacpipcgkdaaNMath
import Derived.WalkKit
import Derived.Test.YtmmgacpipcgkdaaSArgs
import Derived.Test.YtmmgacpipcgkdaaPkMem

/-
  The statements' kind: which of n kinds a number is.
-/
namespace Go.Proofs.Ytmmgacpipcgkdaa
open Go.RowKit

theorem stmod_neg (z : Int) (hz : z < 0) (n : Int) (hn : 0 < n) : -((z + 1).tmod n) = (((-(z + 1)) % n).toNat : Int) := by
  rw [← Int.neg_tmod, Int.tmod_eq_emod_of_nonneg (by omega)]
  have := Int.emod_nonneg (-(z + 1)) (show n ≠ 0 by omega)
  omega
theorem stmod_pos (z : Int) (hz : 0 ≤ z) (n : Int) (hn : 0 < n) : z.tmod n = ((z % n).toNat : Int) := by
  rw [Int.tmod_eq_emod_of_nonneg hz]
  have := Int.emod_nonneg z (show n ≠ 0 by omega)
  omega
theorem semod_toNat (z : Int) (n : Int) (hn : 0 < n) : z % n = ((z % n).toNat : Int) := by
  have := Int.emod_nonneg z (show n ≠ 0 by omega)
  omega
theorem sret_int {k : IntKind} {a b : Int} (h : a = b) : Ending.returned (.int k a) = .returned (.int k b) := by rw [h]
theorem skind_any (z : Int) (hz : -9223372036854775808 ≤ z ∧ z ≤ 9223372036854775807) (n : Nat) (hn : 1 ≤ n) (hn2 : n ≤ 2000) (w : World) :
    Calls Try.prog 28 #[.int .i64 z, .int .i64 (n : Int)] w fun e w' => e = .returned (.int .i64 ((kindN z n : Nat) : Int)) ∧ w' = w := by
  obtain ⟨z0, z1⟩ := hz
  by_cases hneg : z < 0
  · go_enter Try.func28, Try.ntmps28
    go_wp2
    go_ret
    refine ⟨sret_int ?_, rfl⟩
    unfold kindN
    rw [if_pos hneg]
    exact stmod_neg z hneg _ (by omega)
  · go_enter Try.func28, Try.ntmps28
    go_wp2
    go_ret
    refine ⟨sret_int ?_, rfl⟩
    unfold kindN
    rw [if_neg (by omega)]
    first | exact semod_toNat z _ (by omega) | exact stmod_pos z (by omega) _ (by omega)

end Go.Proofs.Ytmmgacpipcgkdaa


/-
  Two superblocks among the arguments, in one array by value.
-/
namespace Go.Proofs.Ytmmgacpipcgkdaa
open Go.ChangeShapes Go.WideShapes Go.ChangeAt Go.RowKit Go.Joins

theorem open_two {H : Type} {enc : TypeId × Value → H} {W : World} {r : Reach} {b0 base : Nat} {sp : Nat → Bool} {hd : Bool} {v : Value} {d : DataW H} {p : List MemPlace}
    (hv : Value.okWide Try.prog W r b0 40 v) (h : DataW.Trod enc Try.prog W base sp hd 40 v d p) : ∃ s t : List Int, v = .agg (iv .i64 (s ++ t)) ∧ IsSuper s ∧ IsSuper t := by
  obtain ⟨cs, rfl, hfit⟩ := flat_open 4 (ks := List.replicate 8 (some .i64)) (by kernel_rfl) (Or.inr ⟨_, _, Try.underlying40⟩) hv h
  obtain ⟨zs, hl, hz, hw⟩ := allFit_ints .i64 8 cs.toList hfit
  refine ⟨zs.take 4, zs.drop 4, by rw [List.take_append_drop, iv, ← hz], ⟨by rw [List.length_take]; omega, fun z h => hw z (List.mem_of_mem_take h)⟩, ⟨by rw [List.length_drop]; omega, fun z h => hw z (List.mem_of_mem_drop h)⟩⟩
theorem two_first {w : World} {g : Nat} {s t : List Int} {T : TypeId} (h : w.heap[g]? = some (.cells (iv .i64 (s ++ t)) T (0, 0))) : w.rangeAt g 0 (iv .i64 s).toList := fun j v hj => by
  rw [cell_of_block h, Nat.zero_add]
  have hj' : (s.map (fun z => Value.int .i64 z))[j]? = some v := hj
  have hlt : j < (s.map (fun z => Value.int .i64 z)).length := by
    rcases Nat.lt_or_ge j (s.map (fun z => Value.int .i64 z)).length with h' | h'
    · exact h'
    · rw [List.getElem?_eq_none h'] at hj'; simp at hj'
  rw [iv, List.getElem?_toArray, List.map_append, List.getElem?_append_left hlt]; exact hj'
theorem two_second {w : World} {g : Nat} {s t : List Int} {T : TypeId} (hs : s.length = 4) (h : w.heap[g]? = some (.cells (iv .i64 (s ++ t)) T (0, 0))) : w.rangeAt g 4 (iv .i64 t).toList := fun j v hj => by
  rw [cell_of_block h]
  have hj' : (t.map (fun z => Value.int .i64 z))[j]? = some v := hj
  rw [iv, List.getElem?_toArray, List.map_append, List.getElem?_append_right (by rw [List.length_map]; omega), List.length_map, hs, show 4 + j - 4 = j by omega]; exact hj'
theorem list4 {s : List Int} (h : s.length = 4) : (Try.prog.info? 23).map (·.size) = some (iv .i64 s).toList.length := by rw [Array.length_toList, iv_size, h]; exact size4
theorem inI_wf {z : Int} (h : (Lit.int .i64 z).wf = true) : -9223372036854775808 ≤ z ∧ z ≤ 9223372036854775807 := by
  simp [Lit.wf, IntKind.min, IntKind.max, IntKind.signed, IntKind.bits] at h; exact ⟨by omega, by omega⟩
/-- A value in the midst of a block, loaded behind a guard that says yes. -/
theorem wpList_load_mid_g {P : Program} {ops : Array Oper} {rest : List Oper} {op : Oper} {a : Act} {w : World} {Q : Exit → Act → World → Prop} (hw : Region.wanted op (yielded ops a.tmps) = true) (ty : TypeId) (x : Operand) (ho : op.op = .load ty x)
    (b o : Nat) (hx : a.eval x = .pointer (some ⟨b, o, none⟩)) (cs : List Value) (d : TypeDesc) (hc : w.rangeAt b o cs)
    (hu : P.underlying ty = some d) (hd : d.isRow = true) (hi : (P.info? ty).map (·.size) = some cs.length)
    (h : wpList P ops Q rest (a.put op.dst (.agg cs.toArray)) w) : wpList P ops Q (op :: rest) a w :=
  wpList_step fun K hK => by rw [if_pos hw]; exact wp_load_mid ty x ho b o hx cs d hc hu hd hi (hK _ _ h)

end Go.Proofs.Ytmmgacpipcgkdaa


/-
  Power among the arguments: when it goes off, and what is kept; two numbers; memories made beside blocks of the call's own.
-/
namespace Go.Proofs.Ytmmgacpipcgkdaa
open Go.ChangeShapes Go.WideShapes Go.ChangeAt Go.RowKit Go.Joins
set_option maxRecDepth 10000

theorem open_pair {H : Type} {enc : TypeId × Value → H} {W : World} {r : Reach} {b0 base : Nat} {sp : Nat → Bool} {hd : Bool} {v : Value} {d : DataW H} {p : List MemPlace}
    (hv : Value.okWide Try.prog W r b0 39 v) (h : DataW.Trod enc Try.prog W base sp hd 39 v d p) : ∃ x y : Int, v = .agg #[.int .i64 x, .int .i64 y] ∧ In64 x ∧ In64 y := by
  obtain ⟨cs, rfl, hfit⟩ := flat_open 4 (ks := List.replicate 2 (some .i64)) (by kernel_rfl) (Or.inr ⟨_, _, Try.underlying39⟩) hv h
  obtain ⟨zs, hl, hz, hw⟩ := allFit_ints .i64 2 cs.toList hfit
  match zs, hl, hz, hw with
  | [x, y], _, hz, hw => exact ⟨x, y, by rw [← Array.toArray_toList (xs := cs), hz]; rfl, in64_wf (hw x (by simp)), in64_wf (hw y (by simp))⟩
theorem open_power {H : Type} {enc : TypeId × Value → H} {W : World} {r : Reach} {b0 : Nat} {v : Value} {d : DataW H} {p : List MemPlace}
    (hv : Value.okWide Try.prog W r b0 43 v) (h : DataW.Trod enc Try.prog W 0 (fun _ => true) true 43 v d p) :
    ∃ (z : Int) (a : Option Addr) (keep : List Int) (cap : Nat), v = .agg #[.int .i64 z, .slice a keep.length cap] ∧ In64 z ∧ IntsAt W a keep ∧ (∀ z ∈ keep, In64 z) ∧ keep.length ≤ 9223372036854775807 := by
  obtain ⟨fuel, hf⟩ := h
  have : ∃ cs, v = .agg cs ∧ cs.size = 2 := by
    simp only [Value.okWide, Try.underlying43] at hv
    obtain ⟨cs, h1, h2⟩ := hv
    refine ⟨cs, h1, ?_⟩
    subst h1
    obtain ⟨xs, k, hk, hxy, hcl, hxl, hf2⟩ := DataW.trod_struct Try.underlying43 hf
    have : Try.prog.cellsOf 43 = 2 := by kernel_rfl
    simpa [Value.cells, this] using hcl
  obtain ⟨cs, rfl, hsz⟩ := this
  obtain ⟨xs, k, hk, hxy, hcl, hxl, hf2⟩ := DataW.trod_struct Try.underlying43 hf
  have hlen : xs.length = 2 := by simpa using hxl
  have hl2 : cs.toList.length = 2 := by simpa using hsz
  have k1 : Try.prog.cellsOf 3 = 1 := by kernel_rfl
  have k3 : Try.prog.cellsOf 41 = 1 := by kernel_rfl
  match hcs : cs.toList, hl2, xs, hlen with
  | [c0, c1], _, [y0, y1], _ =>
    have g0 := hf2 0 _ rfl
    have g1 := hf2 1 _ rfl
    simp [k1, k3, Value.cells, hcs] at g0 g1
    obtain ⟨z0, e0, _, w0⟩ := DataW.trod_int Try.underlying3 g0
    obtain ⟨a, zs, n, cap, e1, hr⟩ := row_of_trod Try.underlying41 Try.underlying3 (by kernel_rfl) g1
    simp at e0
    subst e0 e1
    obtain ⟨q1, q2, q3⟩ := hr.keep
    refine ⟨z0, a, zs, cap, ?_, in64_wf w0, q1, q2, q3⟩
    rw [← Array.toArray_toList (xs := cs), hcs, hr.1]

/-- A memory just made, beside blocks of the call's own. -/
theorem held_made {W w w' : World} {L : List (Nat × Obj)} {n : Nat} {s : Nat → Nat → Int} {e : Ending} (O : Own W w L) (hL : ∀ p ∈ L, W.heap.size ≤ p.1) (h : Made w n s e w') :
    ∃ b, e = .returned (.tuple #[.pointer (some ⟨b, 0, none⟩), .int .i64 0]) ∧ Held W (fun w G => Has W w G b (Mm.new n s)) w w' (fun _ => False) L := by
  obtain ⟨b, h1, h2, h3⟩ := made_has W (Keeps.of_below O.below) h (fun k => False ∨ ∃ o, (k, o) ∈ L) (fun k hk => by
    rcases hk with hk | ⟨o, hk⟩
    · exact hk.elim
    · exact O.lt _ hk)
  exact ⟨b, h1, h2, fun p hp => ⟨(h3 p.1 (Or.inr ⟨p.2, hp⟩)).trans (O.at _ _ hp), hL p hp, id⟩, fun _ h => h.elim⟩
theorem held_below {W w0 w : World} {St : World → (Nat → Prop) → Prop} {G : Nat → Prop} {L : List (Nat × Obj)} (S : Stay W St) (h : Held W St w0 w G L) : Below W.heap.size W w := (S.sz _ _ h.st).below (Nat.le_refl _) (fun _ h => h.elim)

end Go.Proofs.Ytmmgacpipcgkdaa
