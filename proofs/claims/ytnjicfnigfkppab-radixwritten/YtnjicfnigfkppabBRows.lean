
/-
  Rows of bytes behind slices: read off an argument, appended to a slice of the call's own, made a string. Over any program.
-/
import Derived.WalkKit
import Derived.WalkLawsBesides
import Derived.ProofKit
import Derived.OpenShut
import Derived.Laws.AppendOwnNone
import Derived.Laws.BytesArg
import Derived.Deep.Draws
import Derived.Test.YtnjicfnigfkppabRows2
import Derived.Test.YtnjicfnigfkppabCMath
namespace Go.Proofs.Ytnjicfnigfkppab
open Go.ChangeShapes Go.WideShapes Go.ChangeAt Go.RowKit Go.Joins
set_option maxRecDepth 10000

/-- A row of bytes lies where a slice leads. -/
def Lies (w : World) (a : Option Addr) (bs : List Int) : Prop :=
  bs = [] ∨ ∃ b off, a = some ⟨b, off, none⟩ ∧ ∀ i, i < bs.length → w.cell? ⟨b, off + i, none⟩ = some (.int .u8 (bs.getD i 0))

theorem add_none (b off j : Nat) : (⟨b, off, none⟩ : Addr).add j = ⟨b, off + j, none⟩ := by unfold Addr.add; split <;> simp_all

theorem lies_take {w : World} {a : Option Addr} {bs : List Int} (h : Lies w a bs) (n : Nat) : Lies w a (bs.take n) := by
  rcases h with rfl | ⟨b, off, rfl, h⟩
  · left; simp
  · right
    refine ⟨b, off, rfl, fun i hi => ?_⟩
    have hi' : i < n ∧ i < bs.length := by rw [List.length_take] at hi; omega
    rw [h i hi'.2, List.getD_eq_getElem?_getD, List.getD_eq_getElem?_getD, List.getElem?_take, if_pos hi'.1]

theorem block_of_cell {w : World} {b o : Nat} {v : Value} (h : w.cell? ⟨b, o, none⟩ = some v) : b < w.heap.size := by
  rcases Nat.lt_or_ge b w.heap.size with h' | h'
  · exact h'
  · simp [World.cell?, Array.getElem?_eq_none h'] at h

theorem lies_below {B : Nat} {w w' : World} {a : Option Addr} {bs : List Int} (h : Lies w a bs) (hB : w.heap.size ≤ B) (hb : Below B w w') : Lies w' a bs := by
  rcases h with rfl | ⟨b, off, rfl, h⟩
  · left; rfl
  · right
    refine ⟨b, off, rfl, fun i hi => ?_⟩
    have := block_of_cell (h i hi)
    rw [hb.cell (p := ⟨b, off + i, none⟩) (show b < B by omega)]; exact h i hi

def IsBytes (W : World) (a : Option Addr) (bs : List Int) (n cap : Nat) : Prop :=
  bs.length = n ∧ Lies W a bs ∧ Bytes8 bs ∧ n ≤ cap ∧ cap ≤ 9223372036854775807 ∧ (a = none → cap = 0)

/-- What a slice of bytes among the arguments is. -/
theorem open_row {H : Type} {enc : TypeId × Value → H} {P : Program} {t e : TypeId} (ht : P.underlying t = some (.slice e)) (he : P.underlying e = some (.int .u8)) (hc : P.cellsOf e = 1)
    {W : World} {r : Reach} {b0 : Nat} {v : Value} {d : DataW H} {p : List MemPlace} (hv : Value.okWide P W r b0 t v) (h : DataW.Trod enc P W 0 (fun _ => true) true t v d p) :
    ∃ (a : Option Addr) (bs : List Int) (n cap : Nat), v = .slice a n cap ∧ IsBytes W a bs n cap := by
  obtain ⟨a, len, cap, rfl⟩ := okWide_slice ht hv
  obtain ⟨fuel, hf⟩ := h
  rcases open_ints ht he hc hf with ⟨hcs, _⟩ | ⟨x, l, c, zs, hcs, _, hl, hm, hz, _, hcell, hwz⟩
  · simp [Value.cells] at hcs
    obtain ⟨rfl, rfl, rfl⟩ := hcs
    exact ⟨none, [], 0, 0, rfl, rfl, Or.inl rfl, by simp [Bytes8], Nat.le_refl _, by decide, fun _ => rfl⟩
  · simp [Value.cells] at hcs
    obtain ⟨rfl, rfl, rfl⟩ := hcs
    have hz' : zs.length = cap := by simpa using hz
    have hb8 : Bytes8 zs := fun z hz => by
      have := hwz z hz
      simp [Lit.wf, IntKind.min, IntKind.max, IntKind.signed, IntKind.bits] at this; omega
    refine ⟨some x, zs.take len, len, cap, rfl, by rw [List.length_take]; omega, ?_, b8_take hb8 len, hl, hm, by simp⟩
    by_cases h0 : len = 0
    · left; rw [h0]; rfl
    · refine lies_take (Or.inr ?_) len
      obtain ⟨b, off, spot⟩ := x
      have hspot : spot = none := by simpa [Addr.add] using World.cell?_spot (hcell 0 (by omega))
      subst hspot
      refine ⟨b, off, rfl, fun i hi => ?_⟩
      rw [← add_none]; exact hcell i hi

/-- A slice of the call's own, whose row is known: as a row that lies there. -/
theorem lies_own {w : World} {base : Nat} {e : TypeId} {v : Value} {n : Nat} {bs : List Int} (h : w.ownsRow base e 1 v n (bs.map (Value.int .u8))) :
    ∃ a cap, v = .slice a n cap ∧ Lies w a bs ∧ bs.length = n ∧ n ≤ cap ∧ cap ≤ 9223372036854775807 ∧ (a = none → cap = 0) := by
  have hlen : bs.length = n := by have := h.1; simpa using this
  rcases h.2 with ⟨rfl, rfl⟩ | ⟨g, cap, cur, rfl, _, hg, hnc, hcm, hcs, htake⟩
  · exact ⟨none, 0, rfl, Or.inl (List.length_eq_zero_iff.1 hlen), hlen, Nat.le_refl _, by decide, fun _ => rfl⟩
  · refine ⟨_, cap, rfl, Or.inr ⟨g, 0, rfl, fun i hi => ?_⟩, hlen, hnc, hcm, by simp⟩
    rw [Nat.zero_add, h.cellAt i (by omega), List.getElem?_map, List.getElem?_eq_getElem hi, List.getD_eq_getElem?_getD, List.getElem?_eq_getElem hi]
    rfl

theorem lies_own_some {w : World} {base : Nat} {e : TypeId} {v : Value} {n : Nat} {bs : List Int} (h : w.ownsRow base e 1 v n (bs.map (Value.int .u8))) (hv : v ≠ .slice none 0 0) :
    ∃ g cap, v = .slice (some ⟨g, 0, none⟩) n cap ∧ base ≤ g ∧ g < w.heap.size ∧ bs.length = n ∧ n ≤ cap ∧ cap ≤ 9223372036854775807 ∧ (∀ i, i < bs.length → w.cell? ⟨g, i, none⟩ = some (.int .u8 (bs.getD i 0))) ∧ ∀ i, w.frozen? ⟨g, i, none⟩ = false := by
  have hlen : bs.length = n := by have := h.1; simpa using this
  rcases h.2 with ⟨rfl, rfl⟩ | ⟨g, cap, cur, rfl, hb, hg, hnc, hcm, hcs, htake⟩
  · exact absurd rfl hv
  · refine ⟨g, cap, rfl, hb, ?_, hlen, hnc, hcm, fun i hi => ?_, fun i => unfrozen_of_block hg i⟩
    · rcases Nat.lt_or_ge g w.heap.size with h' | h'
      · exact h'
      · simp [Array.getElem?_eq_none h'] at hg
    · rw [h.cellAt i (by omega), List.getElem?_map, List.getElem?_eq_getElem hi, List.getD_eq_getElem?_getD, List.getElem?_eq_getElem hi]
      rfl

theorem lies_draws {w : World} {a : Option Addr} {bs : List Int} (h : Lies w a bs) (n : Nat) : Lies (w.drewN n) a bs := by
  rcases h with rfl | ⟨b, off, rfl, h⟩
  · left; rfl
  · exact Or.inr ⟨b, off, rfl, fun i hi => h i hi⟩

theorem lies_at {W : World} {a : Option Addr} {bs : List Int} (h : Lies W a bs) (j : Nat) (hj : j < bs.length) :
    ∃ b o, a = some ⟨b, o, none⟩ ∧ ∀ w' : World, Below W.heap.size W w' → w'.cell? ⟨b, o + j, none⟩ = some (.int .u8 (bs.getD j 0)) := by
  rcases h with rfl | ⟨b, off, rfl, h⟩
  · simp at hj
  · refine ⟨b, off, rfl, fun w' hb => ?_⟩
    rw [hb.cell (p := ⟨b, off + j, none⟩) (block_of_cell (h j hj))]; exact h j hj

theorem lies_set {w : World} {base : Nat} {e : TypeId} {g n cap : Nat} {bs : List Int} (h : w.ownsRow base e 1 (.slice (some ⟨g, 0, none⟩) n cap) n (bs.map (Value.int .u8))) (hn : bs.length = n) (q : Nat) (x y : Int) (hxy : x = y) :
    Lies ((w.setCell ⟨g, q, none⟩ (.int .u8 x)).drew) (some ⟨g, 0, none⟩) (bs.set q y) := by
  subst hxy
  rcases h.2 with ⟨h', _⟩ | ⟨g', cap', cur, h', _, hg, hnc, _, hcs, htake⟩
  · simp at h'
  · simp only [Value.slice.injEq, Option.some.injEq, Addr.mk.injEq, and_true, true_and] at h'
    obtain ⟨rfl, rfl⟩ := h'
    refine Or.inr ⟨g, 0, rfl, fun i hi => ?_⟩
    rw [List.length_set] at hi
    show (w.setCell _ _).cell? _ = _
    rw [cell_of_block (block_setCell hg _), Nat.zero_add]
    have hc : cur[i]? = some (.int .u8 (bs.getD i 0)) := by
      have := h.cellAt i (by omega)
      rw [cell_of_block hg] at this
      rw [this, List.getElem?_map, List.getElem?_eq_getElem hi, List.getD_eq_getElem?_getD, List.getElem?_eq_getElem hi]; rfl
    by_cases hq : q = i
    · subst hq
      have hlt : q < cur.size := by omega
      rw [Array.getElem?_setIfInBounds_self_of_lt hlt, List.getD_eq_getElem?_getD, List.getElem?_set_self hi]; rfl
    · rw [Array.getElem?_setIfInBounds_ne hq, hc, List.getD_eq_getElem?_getD, List.getD_eq_getElem?_getD, List.getElem?_set, if_neg hq]

theorem grown_refl (w : World) (r : Option Nat) : w.grownBy w r := ⟨rfl, rfl, rfl, Nat.le_refl _, fun _ _ _ => rfl⟩

theorem below_grown {w w' : World} {base : Nat} {e : TypeId} {v : Value} {n : Nat} {xs : List Value} (hown : w.ownsRow base e 1 v n xs) (hbase : base ≤ w.heap.size) (hg : w.grownBy w' v.ownBlock) : Below base w w' := by
  refine (Below.refl base w).grown hg hbase fun k hk => ?_
  rcases hown.2 with ⟨rfl, _⟩ | ⟨g, cap, cur, rfl, hb, _⟩
  · simp [Value.ownBlock] at hk
  · simp [Value.ownBlock] at hk; omega

/-- 'append(own, xs...)': a row of bytes behind a slice of the call's own. -/
theorem wpList_append_lies {P : Program} {w : World} {ops : Array Oper} {rest : List Oper} {o : Oper} {a : Act} {Q : Exit → Act → World → Prop} (hgd : o.guard = none) (s x : Operand) (t : TypeId)
    (ho : o.op = .call { callee := .builtin .append, args := #[s, x], argTypes := #[t, t] }) (base : Nat) (e : TypeId) (ht : P.underlying t = some (.slice e))
    (hinfo : (P.info? e).map (fun i => (i.zero, i.size, i.bytes)) = some (some (.int .u8 0), 1, 1))
    (v : Value) (n : Nat) (xs : List Int) (hs : a.eval s = v) (hown : w.ownsRow base e 1 v n (xs.map (Value.int .u8)))
    (ao : Option Addr) (m c : Nat) (hx : a.eval x = .slice ao m c) (bs : List Int) (hm : bs.length = m) (hl : Lies w ao bs) (hno : ao = none → c = 0) (hbd : n + m ≤ 140737488355328) (hbase : base ≤ w.heap.size)
    (h : ∀ v' w', w'.ownsRow base e 1 v' (n + m) ((xs ++ bs).map (Value.int .u8)) → Below base w w' → (v ≠ .slice none 0 0 → v' ≠ .slice none 0 0) → wpList P ops Q rest (a.put o.dst v') w') : wpList P ops Q (o :: rest) a w := by
  obtain ⟨i0, hi, hz0, hz1, hz2⟩ := info_parts hinfo
  cases ao with
  | none =>
    have hb0 : bs = [] := by
      rcases hl with h | ⟨_, _, h, _⟩
      · exact h
      · simp at h
    subst hb0
    obtain rfl : m = 0 := hm.symm
    rw [hno rfl] at hx
    refine wpList_append_own_none hgd s x t ho base e i0 1 ht hi v n (xs.map (Value.int .u8)) hs hown hx ?_
    exact h v w (by simpa using hown) (Below.refl _ _) id
  | some ad =>
    refine wpList_append_own w hgd s x t ho base e i0 (.int .u8 0) 1 1 ht hi hz0 hz1 hz2 rfl (by decide) v n (xs.map (Value.int .u8)) hs hown ad m c (bs.map (Value.int .u8)) hx (by simpa using hm) ?_ ?_ (by unfold maxLen; omega) (by omega) hbase ?_
    · intro j u hj
      rw [List.getElem?_map] at hj
      obtain ⟨z, hz, rfl⟩ := Option.map_eq_some_iff.1 hj
      have hjl : j < bs.length := by
        rcases Nat.lt_or_ge j bs.length with h | h
        · exact h
        · rw [List.getElem?_eq_none h] at hz; simp at hz
      rcases hl with h | ⟨b, off, h1, h2⟩
      · rw [h] at hjl; simp at hjl
      · obtain rfl : ad = ⟨b, off, none⟩ := by simpa using h1
        have := h2 j hjl
        rw [List.getD_eq_getElem?_getD, hz] at this
        rw [add_none]; exact this
    · intro u hu
      obtain ⟨z, _, rfl⟩ := List.mem_map.1 hu
      rfl
    · intro v' w' h1 h2 h3
      refine h v' w' ?_ (below_grown hown hbase h2) fun hv hv' => hv (h3.1 hv').1
      rw [List.map_append]; exact h1

/-- A row of bytes, as a string. -/
theorem conv_lies {P : Program} {w : World} {src dst e : TypeId} (hs : P.underlying src = some (.slice e)) (he : P.underlying e = some (.int .u8)) (hd : P.underlying dst = some .string)
    {a : Option Addr} {bs : List Int} (n cap : Nat) (hn : bs.length = n) (h : Lies w a bs) : (convert src dst (.slice a n cap)).run P w = .ok (.string (strOfNums bs)) w := by
  rcases h with rfl | ⟨b, off, rfl, h⟩
  · obtain rfl : n = 0 := hn.symm
    cases a with
    | none => rw [run_convert_bytes_nil w src e hs he 0 cap dst hd]; rfl
    | some ad =>
      have hl : (loadCells ad 0).run P w = .ok (([] : List Int).map (Value.int .u8)).toArray w := by
        have := run_loadCells_list (P := P) w ad [] (fun j v hj => by simp at hj)
        simpa using this
      rw [run_convert_bytes_string w src dst e _ 0 cap hs he hd, run_bytesToString w _ 0 cap [] hl]; rfl
  · exact run_convert_bytes_arg w src e hs he b off n cap bs hn (fun i hi => h i (by omega)) dst hd

end Go.Proofs.Ytnjicfnigfkppab
