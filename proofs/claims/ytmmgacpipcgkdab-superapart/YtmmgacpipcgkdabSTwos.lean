
/-
  Two superblocks among the arguments, in one array by value.
-/
import Derived.Test.YtmmgacpipcgkdabSArgs
namespace Go.Proofs.Ytmmgacpipcgkdab
open Go.ChangeShapes Go.WideShapes Go.ChangeAt Go.RowKit Go.Joins

theorem open_two {H : Type} {enc : TypeId × Value → H} {W : World} {r : Reach} {b0 base : Nat} {sp : Nat → Bool} {hd : Bool} {v : Value} {d : DataW H} {p : List MemPlace}
    (hv : Value.okWide Try.prog W r b0 24 v) (h : DataW.Trod enc Try.prog W base sp hd 24 v d p) : ∃ s t : List Int, v = .agg (iv .i64 (s ++ t)) ∧ IsSuper s ∧ IsSuper t := by
  obtain ⟨cs, rfl, hfit⟩ := flat_open 4 (ks := List.replicate 8 (some .i64)) (by kernel_rfl) (Or.inr ⟨_, _, Try.underlying24⟩) hv h
  obtain ⟨zs, hl, hz, hw⟩ := allFit_ints .i64 8 cs.toList hfit
  refine ⟨zs.take 4, zs.drop 4, by rw [List.take_append_drop, iv, ← hz], ⟨by rw [List.length_take]; omega, fun z h => hw z (List.mem_of_mem_take h)⟩, ⟨by rw [List.length_drop]; omega, fun z h => hw z (List.mem_of_mem_drop h)⟩⟩
theorem two_first {w : World} {g : Nat} {s t : List Int} {T : TypeId} (h : w.heap[g]? = some (.cells (iv .i64 (s ++ t)) T (0, 0))) : w.rangeAt g 0 (iv .i64 s).toList := fun j v hj => by
  rw [cell_of_block h, Nat.zero_add]
  have hj' : (s.map (fun z => Value.int .i64 z))[j]? = some v := hj
  have hlt : j < (s.map (fun z => Value.int .i64 z)).length := by
    rcases Nat.lt_or_ge j (s.map (fun z => Value.int .i64 z)).length with h' | h'
    · exact h'
    · rw [List.getElem?_eq_none h'] at hj'; simp at hj'
  rw [iv, List.getElem?_toArray, List.map_append, List.getElem?_append_left hlt]; exact hj'
theorem two_second {w : World} {g : Nat} {s t : List Int} {T : TypeId} (hs : s.length = 4) (h : w.heap[g]? = some (.cells (iv .i64 (s ++ t)) T (0, 0))) : w.rangeAt g 4 (iv .i64 t).toList := fun j v hj => by
  rw [cell_of_block h]
  have hj' : (t.map (fun z => Value.int .i64 z))[j]? = some v := hj
  rw [iv, List.getElem?_toArray, List.map_append, List.getElem?_append_right (by rw [List.length_map]; omega), List.length_map, hs, show 4 + j - 4 = j by omega]; exact hj'
theorem list4 {s : List Int} (h : s.length = 4) : (Try.prog.info? 23).map (·.size) = some (iv .i64 s).toList.length := by rw [Array.length_toList, iv_size, h]; exact size4
theorem inI_wf {z : Int} (h : (Lit.int .i64 z).wf = true) : -9223372036854775808 ≤ z ∧ z ≤ 9223372036854775807 := by
  simp [Lit.wf, IntKind.min, IntKind.max, IntKind.signed, IntKind.bits] at h; exact ⟨by omega, by omega⟩
/-- A value in the midst of a block, loaded behind a guard that says yes. -/
theorem wpList_load_mid_g {P : Program} {ops : Array Oper} {rest : List Oper} {op : Oper} {a : Act} {w : World} {Q : Exit → Act → World → Prop} (hw : Region.wanted op (yielded ops a.tmps) = true) (ty : TypeId) (x : Operand) (ho : op.op = .load ty x)
    (b o : Nat) (hx : a.eval x = .pointer (some ⟨b, o, none⟩)) (cs : List Value) (d : TypeDesc) (hc : w.rangeAt b o cs)
    (hu : P.underlying ty = some d) (hd : d.isRow = true) (hi : (P.info? ty).map (·.size) = some cs.length)
    (h : wpList P ops Q rest (a.put op.dst (.agg cs.toArray)) w) : wpList P ops Q (op :: rest) a w :=
  wpList_step fun K hK => by rw [if_pos hw]; exact wp_load_mid ty x ho b o hx cs d hc hu hd hi (hK _ _ h)

end Go.Proofs.Ytmmgacpipcgkdab
