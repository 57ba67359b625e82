import Derived.WalkKit
import Derived.WalkLawsBesides
import Derived.ProofKit
import Derived.OpenShut
import Derived.Laws.AppendOwnNone
import Derived.Laws.BytesArg
import Derived.Deep.Draws
import Derived.Test.YtiafhcgaikapcaaGreatRows2
import Derived.Test.YtiafhcgaikapcaaGreatCMath
import Derived.Test.YtiafhcgaikapcaaGreatRows
import Derived.Test.YtiafhcgaikapcaaGreatWCalls
import Derived.Test.YtiafhcgaikapcaaGreatWLineMath
import Derived.Test.YtiafhcgaikapcaaGreatPkCr
import Derived.Test.YtiafhcgaikapcaaGreatEqual
import Derived.Test.YtiafhcgaikapcaaGreatEqS

/-
  Rows of bytes behind slices: read off an argument, appended to a slice of the call's own, made a string. Over any program.
-/
namespace Go.Proofs.YtiafhcgaikapcaaGreat
open Go.ChangeShapes Go.WideShapes Go.ChangeAt Go.RowKit Go.Joins
set_option maxRecDepth 10000

/-- A row of bytes lies where a slice leads. -/
def Lies (w : World) (a : Option Addr) (bs : List Int) : Prop :=
  bs = [] ∨ ∃ b off, a = some ⟨b, off, none⟩ ∧ ∀ i, i < bs.length → w.cell? ⟨b, off + i, none⟩ = some (.int .u8 (bs.getD i 0))

theorem add_none (b off j : Nat) : (⟨b, off, none⟩ : Addr).add j = ⟨b, off + j, none⟩ := by unfold Addr.add; split <;> simp_all

theorem lies_take {w : World} {a : Option Addr} {bs : List Int} (h : Lies w a bs) (n : Nat) : Lies w a (bs.take n) := by
  rcases h with rfl | ⟨b, off, rfl, h⟩
  · left; simp
  · right
    refine ⟨b, off, rfl, fun i hi => ?_⟩
    have hi' : i < n ∧ i < bs.length := by rw [List.length_take] at hi; omega
    rw [h i hi'.2, List.getD_eq_getElem?_getD, List.getD_eq_getElem?_getD, List.getElem?_take, if_pos hi'.1]

theorem block_of_cell {w : World} {b o : Nat} {v : Value} (h : w.cell? ⟨b, o, none⟩ = some v) : b < w.heap.size := by
  rcases Nat.lt_or_ge b w.heap.size with h' | h'
  · exact h'
  · simp [World.cell?, Array.getElem?_eq_none h'] at h

theorem lies_below {B : Nat} {w w' : World} {a : Option Addr} {bs : List Int} (h : Lies w a bs) (hB : w.heap.size ≤ B) (hb : Below B w w') : Lies w' a bs := by
  rcases h with rfl | ⟨b, off, rfl, h⟩
  · left; rfl
  · right
    refine ⟨b, off, rfl, fun i hi => ?_⟩
    have := block_of_cell (h i hi)
    rw [hb.cell (p := ⟨b, off + i, none⟩) (show b < B by omega)]; exact h i hi

def IsBytes (W : World) (a : Option Addr) (bs : List Int) (n cap : Nat) : Prop :=
  bs.length = n ∧ Lies W a bs ∧ Bytes8 bs ∧ n ≤ cap ∧ cap ≤ 9223372036854775807 ∧ (a = none → cap = 0)

/-- What a slice of bytes among the arguments is. -/
theorem open_row {H : Type} {enc : TypeId × Value → H} {P : Program} {t e : TypeId} (ht : P.underlying t = some (.slice e)) (he : P.underlying e = some (.int .u8)) (hc : P.cellsOf e = 1)
    {W : World} {r : Reach} {b0 : Nat} {v : Value} {d : DataW H} {p : List MemPlace} (hv : Value.okWide P W r b0 t v) (h : DataW.Trod enc P W 0 (fun _ => true) true t v d p) :
    ∃ (a : Option Addr) (bs : List Int) (n cap : Nat), v = .slice a n cap ∧ IsBytes W a bs n cap := by
  obtain ⟨a, len, cap, rfl⟩ := okWide_slice ht hv
  obtain ⟨fuel, hf⟩ := h
  rcases open_ints ht he hc hf with ⟨hcs, _⟩ | ⟨x, l, c, zs, hcs, _, hl, hm, hz, _, hcell, hwz⟩
  · simp [Value.cells] at hcs
    obtain ⟨rfl, rfl, rfl⟩ := hcs
    exact ⟨none, [], 0, 0, rfl, rfl, Or.inl rfl, by simp [Bytes8], Nat.le_refl _, by decide, fun _ => rfl⟩
  · simp [Value.cells] at hcs
    obtain ⟨rfl, rfl, rfl⟩ := hcs
    have hz' : zs.length = cap := by simpa using hz
    have hb8 : Bytes8 zs := fun z hz => by
      have := hwz z hz
      simp [Lit.wf, IntKind.min, IntKind.max, IntKind.signed, IntKind.bits] at this; omega
    refine ⟨some x, zs.take len, len, cap, rfl, by rw [List.length_take]; omega, ?_, b8_take hb8 len, hl, hm, by simp⟩
    by_cases h0 : len = 0
    · left; rw [h0]; rfl
    · refine lies_take (Or.inr ?_) len
      obtain ⟨b, off, spot⟩ := x
      have hspot : spot = none := by simpa [Addr.add] using World.cell?_spot (hcell 0 (by omega))
      subst hspot
      refine ⟨b, off, rfl, fun i hi => ?_⟩
      rw [← add_none]; exact hcell i hi

/-- A slice of the call's own, whose row is known: as a row that lies there. -/
theorem lies_own {w : World} {base : Nat} {e : TypeId} {v : Value} {n : Nat} {bs : List Int} (h : w.ownsRow base e 1 v n (bs.map (Value.int .u8))) :
    ∃ a cap, v = .slice a n cap ∧ Lies w a bs ∧ bs.length = n ∧ n ≤ cap ∧ cap ≤ 9223372036854775807 ∧ (a = none → cap = 0) := by
  have hlen : bs.length = n := by have := h.1; simpa using this
  rcases h.2 with ⟨rfl, rfl⟩ | ⟨g, cap, cur, rfl, _, hg, hnc, hcm, hcs, htake⟩
  · exact ⟨none, 0, rfl, Or.inl (List.length_eq_zero_iff.1 hlen), hlen, Nat.le_refl _, by decide, fun _ => rfl⟩
  · refine ⟨_, cap, rfl, Or.inr ⟨g, 0, rfl, fun i hi => ?_⟩, hlen, hnc, hcm, by simp⟩
    rw [Nat.zero_add, h.cellAt i (by omega), List.getElem?_map, List.getElem?_eq_getElem hi, List.getD_eq_getElem?_getD, List.getElem?_eq_getElem hi]
    rfl

theorem lies_own_some {w : World} {base : Nat} {e : TypeId} {v : Value} {n : Nat} {bs : List Int} (h : w.ownsRow base e 1 v n (bs.map (Value.int .u8))) (hv : v ≠ .slice none 0 0) :
    ∃ g cap, v = .slice (some ⟨g, 0, none⟩) n cap ∧ base ≤ g ∧ g < w.heap.size ∧ bs.length = n ∧ n ≤ cap ∧ cap ≤ 9223372036854775807 ∧ (∀ i, i < bs.length → w.cell? ⟨g, i, none⟩ = some (.int .u8 (bs.getD i 0))) ∧ ∀ i, w.frozen? ⟨g, i, none⟩ = false := by
  have hlen : bs.length = n := by have := h.1; simpa using this
  rcases h.2 with ⟨rfl, rfl⟩ | ⟨g, cap, cur, rfl, hb, hg, hnc, hcm, hcs, htake⟩
  · exact absurd rfl hv
  · refine ⟨g, cap, rfl, hb, ?_, hlen, hnc, hcm, fun i hi => ?_, fun i => unfrozen_of_block hg i⟩
    · rcases Nat.lt_or_ge g w.heap.size with h' | h'
      · exact h'
      · simp [Array.getElem?_eq_none h'] at hg
    · rw [h.cellAt i (by omega), List.getElem?_map, List.getElem?_eq_getElem hi, List.getD_eq_getElem?_getD, List.getElem?_eq_getElem hi]
      rfl

theorem lies_draws {w : World} {a : Option Addr} {bs : List Int} (h : Lies w a bs) (n : Nat) : Lies (w.drewN n) a bs := by
  rcases h with rfl | ⟨b, off, rfl, h⟩
  · left; rfl
  · exact Or.inr ⟨b, off, rfl, fun i hi => h i hi⟩

theorem lies_at {W : World} {a : Option Addr} {bs : List Int} (h : Lies W a bs) (j : Nat) (hj : j < bs.length) :
    ∃ b o, a = some ⟨b, o, none⟩ ∧ ∀ w' : World, Below W.heap.size W w' → w'.cell? ⟨b, o + j, none⟩ = some (.int .u8 (bs.getD j 0)) := by
  rcases h with rfl | ⟨b, off, rfl, h⟩
  · simp at hj
  · refine ⟨b, off, rfl, fun w' hb => ?_⟩
    rw [hb.cell (p := ⟨b, off + j, none⟩) (block_of_cell (h j hj))]; exact h j hj

theorem lies_set {w : World} {base : Nat} {e : TypeId} {g n cap : Nat} {bs : List Int} (h : w.ownsRow base e 1 (.slice (some ⟨g, 0, none⟩) n cap) n (bs.map (Value.int .u8))) (hn : bs.length = n) (q : Nat) (x y : Int) (hxy : x = y) :
    Lies ((w.setCell ⟨g, q, none⟩ (.int .u8 x)).drew) (some ⟨g, 0, none⟩) (bs.set q y) := by
  subst hxy
  rcases h.2 with ⟨h', _⟩ | ⟨g', cap', cur, h', _, hg, hnc, _, hcs, htake⟩
  · simp at h'
  · simp only [Value.slice.injEq, Option.some.injEq, Addr.mk.injEq, and_true, true_and] at h'
    obtain ⟨rfl, rfl⟩ := h'
    refine Or.inr ⟨g, 0, rfl, fun i hi => ?_⟩
    rw [List.length_set] at hi
    show (w.setCell _ _).cell? _ = _
    rw [cell_of_block (block_setCell hg _), Nat.zero_add]
    have hc : cur[i]? = some (.int .u8 (bs.getD i 0)) := by
      have := h.cellAt i (by omega)
      rw [cell_of_block hg] at this
      rw [this, List.getElem?_map, List.getElem?_eq_getElem hi, List.getD_eq_getElem?_getD, List.getElem?_eq_getElem hi]; rfl
    by_cases hq : q = i
    · subst hq
      have hlt : q < cur.size := by omega
      rw [Array.getElem?_setIfInBounds_self_of_lt hlt, List.getD_eq_getElem?_getD, List.getElem?_set_self hi]; rfl
    · rw [Array.getElem?_setIfInBounds_ne hq, hc, List.getD_eq_getElem?_getD, List.getD_eq_getElem?_getD, List.getElem?_set, if_neg hq]

theorem grown_refl (w : World) (r : Option Nat) : w.grownBy w r := ⟨rfl, rfl, rfl, Nat.le_refl _, fun _ _ _ => rfl⟩

theorem below_grown {w w' : World} {base : Nat} {e : TypeId} {v : Value} {n : Nat} {xs : List Value} (hown : w.ownsRow base e 1 v n xs) (hbase : base ≤ w.heap.size) (hg : w.grownBy w' v.ownBlock) : Below base w w' := by
  refine (Below.refl base w).grown hg hbase fun k hk => ?_
  rcases hown.2 with ⟨rfl, _⟩ | ⟨g, cap, cur, rfl, hb, _⟩
  · simp [Value.ownBlock] at hk
  · simp [Value.ownBlock] at hk; omega

/-- 'append(own, xs...)': a row of bytes behind a slice of the call's own. -/
theorem wpList_append_lies {P : Program} {w : World} {ops : Array Oper} {rest : List Oper} {o : Oper} {a : Act} {Q : Exit → Act → World → Prop} (hgd : o.guard = none) (s x : Operand) (t : TypeId)
    (ho : o.op = .call { callee := .builtin .append, args := #[s, x], argTypes := #[t, t] }) (base : Nat) (e : TypeId) (ht : P.underlying t = some (.slice e))
    (hinfo : (P.info? e).map (fun i => (i.zero, i.size, i.bytes)) = some (some (.int .u8 0), 1, 1))
    (v : Value) (n : Nat) (xs : List Int) (hs : a.eval s = v) (hown : w.ownsRow base e 1 v n (xs.map (Value.int .u8)))
    (ao : Option Addr) (m c : Nat) (hx : a.eval x = .slice ao m c) (bs : List Int) (hm : bs.length = m) (hl : Lies w ao bs) (hno : ao = none → c = 0) (hbd : n + m ≤ 140737488355328) (hbase : base ≤ w.heap.size)
    (h : ∀ v' w', w'.ownsRow base e 1 v' (n + m) ((xs ++ bs).map (Value.int .u8)) → Below base w w' → (v ≠ .slice none 0 0 → v' ≠ .slice none 0 0) → wpList P ops Q rest (a.put o.dst v') w') : wpList P ops Q (o :: rest) a w := by
  obtain ⟨i0, hi, hz0, hz1, hz2⟩ := info_parts hinfo
  cases ao with
  | none =>
    have hb0 : bs = [] := by
      rcases hl with h | ⟨_, _, h, _⟩
      · exact h
      · simp at h
    subst hb0
    obtain rfl : m = 0 := hm.symm
    rw [hno rfl] at hx
    refine wpList_append_own_none hgd s x t ho base e i0 1 ht hi v n (xs.map (Value.int .u8)) hs hown hx ?_
    exact h v w (by simpa using hown) (Below.refl _ _) id
  | some ad =>
    refine wpList_append_own w hgd s x t ho base e i0 (.int .u8 0) 1 1 ht hi hz0 hz1 hz2 rfl (by decide) v n (xs.map (Value.int .u8)) hs hown ad m c (bs.map (Value.int .u8)) hx (by simpa using hm) ?_ ?_ (by unfold maxLen; omega) (by omega) hbase ?_
    · intro j u hj
      rw [List.getElem?_map] at hj
      obtain ⟨z, hz, rfl⟩ := Option.map_eq_some_iff.1 hj
      have hjl : j < bs.length := by
        rcases Nat.lt_or_ge j bs.length with h | h
        · exact h
        · rw [List.getElem?_eq_none h] at hz; simp at hz
      rcases hl with h | ⟨b, off, h1, h2⟩
      · rw [h] at hjl; simp at hjl
      · obtain rfl : ad = ⟨b, off, none⟩ := by simpa using h1
        have := h2 j hjl
        rw [List.getD_eq_getElem?_getD, hz] at this
        rw [add_none]; exact this
    · intro u hu
      obtain ⟨z, _, rfl⟩ := List.mem_map.1 hu
      rfl
    · intro v' w' h1 h2 h3
      refine h v' w' ?_ (below_grown hown hbase h2) fun hv hv' => hv (h3.1 hv').1
      rw [List.map_append]; exact h1

/-- A row of bytes, as a string. -/
theorem conv_lies {P : Program} {w : World} {src dst e : TypeId} (hs : P.underlying src = some (.slice e)) (he : P.underlying e = some (.int .u8)) (hd : P.underlying dst = some .string)
    {a : Option Addr} {bs : List Int} (n cap : Nat) (hn : bs.length = n) (h : Lies w a bs) : (convert src dst (.slice a n cap)).run P w = .ok (.string (strOfNums bs)) w := by
  rcases h with rfl | ⟨b, off, rfl, h⟩
  · obtain rfl : n = 0 := hn.symm
    cases a with
    | none => rw [run_convert_bytes_nil w src e hs he 0 cap dst hd]; rfl
    | some ad =>
      have hl : (loadCells ad 0).run P w = .ok (([] : List Int).map (Value.int .u8)).toArray w := by
        have := run_loadCells_list (P := P) w ad [] (fun j v hj => by simp at hj)
        simpa using this
      rw [run_convert_bytes_string w src dst e _ 0 cap hs he hd, run_bytesToString w _ 0 cap [] hl]; rfl
  · exact run_convert_bytes_arg w src e hs he b off n cap bs hn (fun i hi => h i (by omega)) dst hd

end Go.Proofs.YtiafhcgaikapcaaGreat


/-
  Package crc's functions and the document's: what each call returns, in any world, for all integers that fit and all rows of bytes that can be read; the world stays as it is.
-/
namespace Go.Proofs.YtiafhcgaikapcaaGreat
open Go.ChangeShapes Go.WideShapes Go.ChangeAt Go.RowKit
set_option maxRecDepth 10000
set_option linter.unusedVariables false

theorem taken_any (r c : Nat) (hr : r < 4294967296) (hc : c < 256) (w : World) :
    Calls Tryz.prog 221 #[.int .u32 (r : Int), .int .u8 (c : Int)] w fun e w' => e = .returned (.int .u32 ((takeN r c : Nat) : Int)) ∧ w' = w := by
  go_enter Tryz.func221, Tryz.ntmps221
  go_wp2
  go_loop [0, 10] (fun v i => ∃ k : Nat, k ≤ 8 ∧ i = .int .i64 k ∧ v = .int .u32 ((stepsN k (r ^^^ c) : Nat) : Int)) (fun _ i => 8 - (intOf i).toNat)
  case atStart => exact ⟨0, by omega, rfl, by rw [u32_xor_nat r c hr (by omega)]; rfl⟩
  case round =>
    obtain ⟨k, hk, rfl, rfl⟩ := hrel
    have hs := stepsN_lt (xor_lt32 hr (show c < 4294967296 by omega)) k
    have Hn : Hid (stepsN (k + 1) (r ^^^ c) = stepN (stepsN k (r ^^^ c))) := rfl
    have H8 : Hid (takeN r c = stepsN 8 (r ^^^ c)) := rfl
    by_cases hlt : k < 8
    · generalize stepsN k (r ^^^ c) = s at *
      go_wp2
      go_round
      case rel => exact ⟨k + 1, by omega, by go_num, by rw [step_eq s hs, Hn.out]⟩
      case measure => simp [intOf]; omega
    · have hk8 : k = 8 := by omega
      subst hk8
      go_wp2
      go_ret
      exact ⟨ret_int (by rw [H8.out]), rfl⟩

theorem more_any (s : Nat) (hs : s < 4294967296) (a : Option Addr) (bs : List Int) (cap : Nat) (hb : Bytes8 bs) (hl : bs.length ≤ 9223372036854775807) (w : World) (h : Lies w a bs) :
    Calls Tryz.prog 215 #[.int .u32 (s : Int), .slice a bs.length cap] w fun e w' => e = .returned (.int .u32 ((moreN s bs : Nat) : Int)) ∧ w' = w := by
  obtain ⟨len, hlen⟩ : ∃ n, n = bs.length := ⟨_, rfl⟩
  rw [← hlen] at hl ⊢
  have Hlen := (show Hid (len = bs.length) from hlen)
  have H : Hid (Lies w a bs) := h
  have Hb : Hid (Bytes8 bs) := hb
  have Hm : Hid (moreN s bs = notN (regN (notN s) bs)) := rfl
  clear h hlen hb
  go_enter Tryz.func215, Tryz.ntmps215
  go_wp2
  go_loop [5, 12] (fun v i => ∃ k : Nat, k ≤ len ∧ i = .int .i64 k ∧ v = .int .u32 ((regN (notN s) (bs.take k) : Nat) : Int)) (fun _ i => len - (intOf i).toNat)
  case atStart => exact ⟨0, by omega, rfl, by rw [not_eq s hs]; rfl⟩
  case round =>
    obtain ⟨k, hk, rfl, rfl⟩ := hrel
    have hr := regN_lt _ (b8_take Hb.out k) (notN_lt hs)
    by_cases hlt : k < len
    · have h0 := b8_get Hb.out k
      have Hn := hide (regN_snoc (notN s) bs k (by rw [← Hlen.out]; exact hlt))
      obtain ⟨b, off, rfl, hc⟩ : ∃ b off, a = some ⟨b, off, none⟩ ∧ w.cell? ⟨b, off + k, none⟩ = some (.int .u8 (bs.getD k 0)) := by
        rcases H.out with h | ⟨b, off, h1, h2⟩
        · rw [Hlen.out, h] at hlt; simp at hlt
        · exact ⟨b, off, h1, h2 k (by rw [← Hlen.out]; exact hlt)⟩
      obtain ⟨c, hcc⟩ := Int.eq_ofNat_of_zero_le h0.1
      rw [hcc] at hc h0
      have Hcc := hide (hcc)
      clear hcc
      generalize regN (notN s) (bs.take k) = q at *
      go_wp2_with (go_at_call 221; refine (taken_any q c hr (by omega) _).mono ?_; rintro e w' ⟨rfl, rfl⟩)
      go_round
      case rel => exact ⟨k + 1, by omega, by go_num, by rw [Hn.out, Hcc.out]; rfl⟩
      case measure => simp [intOf]; omega
    · have Ht : Hid (bs.take k = bs) := List.take_of_length_le (by have := Hlen.out; omega)
      go_wp2
      go_ret
      exact ⟨ret_int (by rw [not_eq _ hr, Ht.out, Hm.out]), rfl⟩

theorem sum_any (a : Option Addr) (bs : List Int) (cap : Nat) (hb : Bytes8 bs) (hl : bs.length ≤ 9223372036854775807) (w : World) (h : Lies w a bs) :
    Calls Tryz.prog 205 #[.slice a bs.length cap] w fun e w' => e = .returned (.int .u32 ((moreN 0 bs : Nat) : Int)) ∧ w' = w := by
  go_enter Tryz.func205, Tryz.ntmps205
  go_wp2_with (go_at_call 215; refine (more_any 0 (by decide) a bs cap hb hl _ h).mono ?_; rintro e w' ⟨rfl, rfl⟩)
  go_ret
  exact ⟨rfl, rfl⟩

theorem register_any (s : Nat) (hs : s < 4294967296) (a : Option Addr) (bs : List Int) (cap : Nat) (hb : Bytes8 bs) (hl : bs.length ≤ 9223372036854775807) (w : World) (h : Lies w a bs) :
    Calls Tryz.prog 208 #[.int .u32 (s : Int), .slice a bs.length cap] w fun e w' => e = .returned (.int .u32 ((regN s bs : Nat) : Int)) ∧ w' = w := by
  obtain ⟨len, hlen⟩ : ∃ n, n = bs.length := ⟨_, rfl⟩
  rw [← hlen] at hl ⊢
  have Hlen := (show Hid (len = bs.length) from hlen)
  have H : Hid (Lies w a bs) := h
  have Hb : Hid (Bytes8 bs) := hb
  clear h hlen hb
  go_enter Tryz.func208, Tryz.ntmps208
  go_wp2
  go_loop [0, 5] (fun v i => ∃ k : Nat, k ≤ len ∧ i = .int .i64 k ∧ v = .int .u32 ((regN s (bs.take k) : Nat) : Int)) (fun _ i => len - (intOf i).toNat)
  case atStart => exact ⟨0, by omega, rfl, rfl⟩
  case round =>
    obtain ⟨k, hk, rfl, rfl⟩ := hrel
    have hr := regN_lt _ (b8_take Hb.out k) hs
    by_cases hlt : k < len
    · have h0 := b8_get Hb.out k
      have Hn := hide (regN_snoc s bs k (by rw [← Hlen.out]; exact hlt))
      obtain ⟨b, off, rfl, hc⟩ : ∃ b off, a = some ⟨b, off, none⟩ ∧ w.cell? ⟨b, off + k, none⟩ = some (.int .u8 (bs.getD k 0)) := by
        rcases H.out with h | ⟨b, off, h1, h2⟩
        · rw [Hlen.out, h] at hlt; simp at hlt
        · exact ⟨b, off, h1, h2 k (by rw [← Hlen.out]; exact hlt)⟩
      obtain ⟨c, hcc⟩ := Int.eq_ofNat_of_zero_le h0.1
      rw [hcc] at hc h0
      have Hcc := hide (hcc)
      clear hcc
      generalize regN s (bs.take k) = q at *
      have hcl : c < 256 := by omega
      go_wp2
      go_loop [0, 6] (fun v i => ∃ j : Nat, j ≤ 8 ∧ i = .int .i64 j ∧ v = .int .u32 ((stepsN j (q ^^^ c) : Nat) : Int)) (fun _ i => 8 - (intOf i).toNat)
      case atStart => exact ⟨0, by omega, rfl, by rw [u32_xor_nat q c hr (by omega)]; rfl⟩
      case round =>
        obtain ⟨j, hj, rfl, rfl⟩ := hrel
        have hs := stepsN_lt (xor_lt32 hr (show c < 4294967296 by omega)) j
        have Hj : Hid (stepsN (j + 1) (q ^^^ c) = stepN (stepsN j (q ^^^ c))) := rfl
        have H8 : Hid (takeN q c = stepsN 8 (q ^^^ c)) := rfl
        by_cases hlj : j < 8
        · generalize stepsN j (q ^^^ c) = t at *
          have ha := and_one t hs
          rcases (show t % 2 = 0 ∨ t % 2 = 1 by omega) with ht | ht
          · have Ht := hide (ht)
            rw [ht] at ha
            have ha' : bits .and .u32 (t : Int) 1 = 0 := ha
            clear ha ht
            go_wp2
            go_round
            case rel => exact ⟨j + 1, by omega, by go_num, by rw [step_nil t Ht.out, Hj.out]⟩
            case measure => simp [intOf]; omega
          · have Ht := hide (ht)
            rw [ht] at ha
            have ha' : bits .and .u32 (t : Int) 1 = 1 := ha
            clear ha ht
            go_wp2
            go_round
            case rel => exact ⟨j + 1, by omega, by go_num, by rw [step_one t hs Ht.out, Hj.out]⟩
            case measure => simp [intOf]; omega
        · have hj8 : j = 8 := by omega
          subst hj8
          go_wp2
          go_round
          case rel => exact ⟨k + 1, by omega, by go_num, by rw [Hn.out, Hcc.out, ← H8.out]; rfl⟩
          case measure => simp [intOf]; omega
    · have Ht : Hid (bs.take k = bs) := List.take_of_length_le (by have := Hlen.out; omega)
      go_wp2
      go_ret
      exact ⟨ret_int (by rw [Ht.out]), rfl⟩

theorem rsum_any (a : Option Addr) (bs : List Int) (cap : Nat) (hb : Bytes8 bs) (hl : bs.length ≤ 9223372036854775807) (w : World) (h : Lies w a bs) :
    Calls Tryz.prog 183 #[.slice a bs.length cap] w fun e w' => e = .returned (.int .u32 ((moreN 0 bs : Nat) : Int)) ∧ w' = w := by
  have H2 := hide (not_eq _ (regN_lt _ hb (notN_lt (show 0 < 4294967296 by decide))))
  have C := register_any (notN 0) (notN_lt (by decide)) a bs cap hb hl w h
  have e0 : ((notN 0 : Nat) : Int) = 4294967295 := by decide
  rw [e0] at C
  have H := hide (C)
  clear C e0
  go_enter Tryz.func183, Tryz.ntmps183
  go_wp2_with (go_at_call 208; refine (unhide H).mono ?_; rintro e w' ⟨rfl, rfl⟩)
  go_ret
  exact ⟨ret_int H2.out, rfl⟩

theorem sum_len (a : Option Addr) (bs : List Int) (n cap : Nat) (hn : bs.length = n) (hb : Bytes8 bs) (hl : n ≤ 9223372036854775807) (w : World) (h : Lies w a bs) :
    Calls Tryz.prog 205 #[.slice a n cap] w fun e w' => e = .returned (.int .u32 ((moreN 0 bs : Nat) : Int)) ∧ w' = w := by
  subst hn; exact sum_any a bs cap hb hl w h
theorem more_len (s : Nat) (hs : s < 4294967296) (a : Option Addr) (bs : List Int) (n cap : Nat) (hn : bs.length = n) (hb : Bytes8 bs) (hl : n ≤ 9223372036854775807) (w : World) (h : Lies w a bs) :
    Calls Tryz.prog 215 #[.int .u32 (s : Int), .slice a n cap] w fun e w' => e = .returned (.int .u32 ((moreN s bs : Nat) : Int)) ∧ w' = w := by
  subst hn; exact more_any s hs a bs cap hb hl w h
theorem rsum_len (a : Option Addr) (bs : List Int) (n cap : Nat) (hn : bs.length = n) (hb : Bytes8 bs) (hl : n ≤ 9223372036854775807) (w : World) (h : Lies w a bs) :
    Calls Tryz.prog 183 #[.slice a n cap] w fun e w' => e = .returned (.int .u32 ((moreN 0 bs : Nat) : Int)) ∧ w' = w := by
  subst hn; exact rsum_any a bs cap hb hl w h


end Go.Proofs.YtiafhcgaikapcaaGreat


/-
  Lines and bytes: what word.Bytes and word.OfBytes return, and the document's; nothing that was there turns.
-/
namespace Go.Proofs.YtiafhcgaikapcaaGreat
open Go.ChangeShapes Go.WideShapes Go.ChangeAt Go.RowKit Go.Joins
set_option maxRecDepth 10000
set_option linter.unusedVariables false

theorem wfs_u64 {zs : List Int} (hw : ∀ z ∈ zs, (Lit.int .u64 z).wf = true) (j : Nat) : 0 ≤ zs.getD j 0 ∧ zs.getD j 0 ≤ 18446744073709551615 := by
  have := range_u64 hw j
  simpa using this

theorem bytes_any (zs : List Int) (hl : zs.length = 8) (hw : ∀ z ∈ zs, (Lit.int .u64 z).wf = true) (w : World) :
    Calls Tryz.prog 204 #[.agg (iv .u64 zs)] w fun e w' => e = .returned (.agg (iv .u8 (bytesOf zs))) ∧ Below w.heap.size w w' := by
  have hR := wfs_u64 hw
  go_enter Tryz.func204, Tryz.ntmps204
  go_wp2
  go_loopw [6] (fun c wr => ∃ k : Nat, k ≤ 8 ∧ c = .int .i64 k ∧ Below w.heap.size w wr ∧ wr.heap[w.heap.size]? = some (.cells (iv .u64 zs) 83 (0, 0)) ∧
      wr.heap[w.heap.size + 1]? = some (.cells (iv .u8 (partB zs 0)) 247 (0, 0)) ∧ wr.heap[w.heap.size + 1 + 1]? = some (.cells (iv .u8 (partB zs (k * 8))) 247 (0, 0)))
     (fun c _ => 8 - (intOf c).toNat)
  case atStart =>
    have hz : iv .u8 (partB zs 0) = iv .u8 (List.replicate 64 0) := by rw [partB_zero]
    refine ⟨0, by omega, rfl, below_alloc3 _ _ _ _, (heap3 _ _ _ _).1, ?_, ?_⟩
    · rw [hz]; exact (heap3 _ _ _ _).2.1
    · rw [Nat.zero_mul, hz]; exact (heap3 _ _ _ _).2.2
  case round =>
    obtain ⟨k, hk, rfl, hb, g0, g1, g2⟩ := hrel
    by_cases hlt : k < 8
    · go_wp2
      go_loopw [9] (fun c wi => ∃ j : Nat, j ≤ 8 ∧ c = .int .i64 j ∧ Below w.heap.size w wi ∧ wi.heap[w.heap.size]? = some (.cells (iv .u64 zs) 83 (0, 0)) ∧
        wi.heap[w.heap.size + 1]? = some (.cells (iv .u8 (partB zs 0)) 247 (0, 0)) ∧ wi.heap[w.heap.size + 1 + 1]? = some (.cells (iv .u8 (partB zs (k * 8 + j))) 247 (0, 0)))
        (fun c _ => 8 - (intOf c).toNat)
      case atStart => exact ⟨0, by omega, rfl, hb, g0, g1, g2⟩
      case round =>
        clear hb g0 g1 g2
        obtain ⟨j, hj, rfl, hb, g0, g1, g2⟩ := hrel
        by_cases hlj : j < 8
        · have c0 : wr.cell? ⟨w.heap.size, k, none⟩ = some (.int .u64 (zs.getD k 0)) := by rw [cell_of_block g0, iv_get _ _ _ (by omega)]
          have c1 : wr.cell? ⟨w.heap.size + 1 + 1, k * 8 + j, none⟩ = some (.int .u8 ((partB zs (k * 8 + j)).getD (k * 8 + j) 0)) := by rw [cell_of_block g2, iv_get _ _ _ (by rw [partB_len]; omega)]
          have c2 : wr.frozen? ⟨w.heap.size + 1 + 1, k * 8 + j, none⟩ = false := unfrozen_of_block g2 _
          obtain ⟨r0, r1⟩ := hR k
          have hbyte : byteAt zs (k * 8 + j) = zs.getD k 0 / 2 ^ (j * 8) % 256 := by
            unfold byteAt
            rw [show (k * 8 + j) / 8 = k by omega, show (k * 8 + j) % 8 = j by omega]
          have Hset : Hid ((iv .u8 (partB zs (k * 8 + j))).setIfInBounds (k * 8 + j) (.int .u8 (zs.getD k 0 / 2 ^ (j * 8) % 256)) = iv .u8 (partB zs (k * 8 + (j + 1)))) := by
            show _ = _
            rw [iv_set, ← hbyte, partB_set _ _ (by omega), Nat.add_assoc]
          clear hbyte hR hw
          generalize zs.getD k 0 = z at *
          generalize (partB zs (k * 8 + j)).getD (k * 8 + j) 0 = old at *
          have G0 := hide g0
          have G1 := hide g1
          have G2 := hide g2
          clear g0 g1 g2
          go_wp2
          go_roundw
          case rel =>
            refine ⟨j + 1, by omega, by go_num, hb.setCell (by simp; omega) _, ?_, ?_, ?_⟩
            · rw [heap_setCell_other _ _ _ _ (by simp; omega)]; exact unhide G0
            · rw [heap_setCell_other _ _ _ _ (by simp)]; exact unhide G1
            · rw [block_setCell (unhide G2), Hset.out]
          case measure => simp [intOf]; omega
        · have hj8 : j = 8 := by omega
          subst hj8
          go_wp2
          go_roundw
          case rel => exact ⟨k + 1, by omega, by go_num, hb, g0, g1, by rw [Nat.add_mul]; exact g2⟩
          case measure => simp [intOf]; omega
    · have h2 : wr.heap[w.heap.size + 1 + 1]? = some (.cells (iv .u8 (bytesOf zs)) 247 (0, 0)) := by
        rw [g2, show k * 8 = 64 by omega, partB_all]
      clear g2
      have s64 : (Tryz.prog.info? 247).map (·.size) = some 64 := by kernel_rfl
      go_wp2_with (first | (refine wpList_load_row rfl 247 _ rfl _ rfl _ _ _ _ h2 Tryz.underlying247 rfl (by rw [iv_size, bytesOf_len]; exact s64) ?_) | (refine wpList_store_row rfl 247 _ _ rfl _ (iv .u8 (bytesOf zs)) rfl rfl _ _ g1 (by rw [iv_size, bytesOf_len]; exact s64) (by rw [iv_size, iv_size, partB_len, bytesOf_len]) (iv_one _ _) ?_))
      exact bodyPost_ret (v := .agg (iv .u8 (bytesOf zs))) (results_cell_row Tryz.results204 _ _ (w.heap.size + 1) _ (iv .u8 (bytesOf zs)) (0, 0) _ rfl (setRow_heap _ _ _ _ _ _ g1) Tryz.underlying247 rfl (by rw [iv_size, bytesOf_len]; exact s64)) rfl ⟨rfl, below_row hb (by omega) _⟩

theorem built64 : Tryz.prog.built 247 [] = some (iv .u8 (List.replicate 64 0)) := by kernel_rfl
theorem size64 : (Tryz.prog.info? 247).map (·.size) = some 64 := by kernel_rfl

end Go.Proofs.YtiafhcgaikapcaaGreat


/-
  The document's Bytes: what it returns; nothing that was there turns.
-/
namespace Go.Proofs.YtiafhcgaikapcaaGreat
open Go.ChangeShapes Go.WideShapes Go.ChangeAt Go.RowKit Go.Joins
set_option maxRecDepth 10000
set_option linter.unusedVariables false

theorem rbytes_any (zs : List Int) (hl : zs.length = 8) (hw : ∀ z ∈ zs, (Lit.int .u64 z).wf = true) (w : World) :
    Calls Tryz.prog 182 #[.agg (iv .u64 zs)] w fun e w' => e = .returned (.agg (iv .u8 (bytesOf zs))) ∧ Below w.heap.size w w' := by
  have hR := wfs_u64 hw
  obtain ⟨zero, hzero⟩ : ∃ z : Array Value, z = iv .u8 (List.replicate 64 0) := ⟨_, rfl⟩
  have hz : iv .u8 (partB zs 0) = zero := by rw [partB_zero, hzero]
  have hzs : zero.size = 64 := by rw [hzero, iv_size]; simp
  have hz1 : zero.all (·.oneCell') = true := by rw [hzero]; exact iv_one _ _
  have hbt : Tryz.prog.built 247 [] = some zero := by rw [hzero]; exact built64
  have Hz := hide hz
  have Hzs := hide hzs
  have Hz1 := hide hz1
  have Hbt := hide hbt
  have Hzero := hide hzero
  clear hz hzs hz1 hbt hzero
  go_enter Tryz.func182, Tryz.ntmps182
  have hst : ∀ (A B : Obj) (C : Array Value), C.size = 64 → Sem.run Tryz.prog (storeCells ⟨w.heap.size + 1 + 1, 0, none⟩ zero.toList) (((w.alloc A).alloc B).alloc (.cells C 247)) = .ok () (((w.alloc A).alloc B).alloc (.cells zero 247)) :=
    fun A B C hC => run_store_new _ _ (by simp) C zero _ (by rw [hC, unhide Hzs]) (unhide Hz1)
  go_wp2_with (refine wpList_build0 rfl 247 rfl zero (unhide Hbt) ?_)
  go_loopw [4] (fun c wi => ∃ n : Nat, n ≤ 64 ∧ c = .int .i64 n ∧ Below w.heap.size w wi ∧ wi.heap[w.heap.size]? = some (.cells (iv .u64 zs) 83 (0, 0)) ∧
        (∃ old, old.size = 64 ∧ wi.heap[w.heap.size + 1]? = some (.cells old 247 (0, 0))) ∧ wi.heap[w.heap.size + 1 + 1]? = some (.cells (iv .u8 (partB zs n)) 247 (0, 0)))
        (fun c _ => 64 - (intOf c).toNat)
  case atStart =>
    refine ⟨0, by omega, rfl, below_alloc3 _ _ _ _, (heap3 _ _ _ _).1, ⟨_, ?_, (heap3 _ _ _ _).2.1⟩, ?_⟩
    · rfl
    · rw [unhide Hz]; exact (heap3 _ _ _ _).2.2
  case round =>
    obtain ⟨n, hn, rfl, hb, g0, ⟨old, ho, g1⟩, g2⟩ := hrel
    by_cases hlt : n < 64
    · have c0 : wr.cell? ⟨w.heap.size, n / 8, none⟩ = some (.int .u64 (zs.getD (n / 8) 0)) := by rw [cell_of_block g0, iv_get _ _ _ (by omega)]
      have c1 : wr.cell? ⟨w.heap.size + 1 + 1, n, none⟩ = some (.int .u8 ((partB zs n).getD n 0)) := by rw [cell_of_block g2, iv_get _ _ _ (by rw [partB_len]; omega)]
      have c2 : wr.frozen? ⟨w.heap.size + 1 + 1, n, none⟩ = false := unfrozen_of_block g2 _
      obtain ⟨r0, r1⟩ := hR (n / 8)
      have Hset0 : (iv .u8 (partB zs n)).setIfInBounds n (.int .u8 (zs.getD (n / 8) 0 / 2 ^ (8 * (n % 8)) % 256)) = iv .u8 (partB zs (n + 1)) := by
        rw [iv_set, Nat.mul_comm 8]; exact congrArg (iv .u8) (partB_set zs n hlt)
      clear hR hw
      generalize zs.getD (n / 8) 0 = z at *
      generalize (partB zs n).getD n 0 = old1 at *
      have G0 := hide g0
      have G1 := hide g1
      have G2 := hide g2
      clear g0 g1 g2
      have Hset : Hid ((iv .u8 (partB zs n)).setIfInBounds n (.int .u8 (z / 2 ^ (8 * (n % 8)) % 256)) = iv .u8 (partB zs (n + 1))) := Hset0
      clear Hset0
      go_wp2
      go_roundw
      case rel =>
        refine ⟨n + 1, by omega, by go_num, hb.setCell (by simp; omega) _, ?_, ⟨old, ho, ?_⟩, ?_⟩
        · rw [heap_setCell_other _ _ _ _ (by simp; omega)]; exact unhide G0
        · rw [heap_setCell_other _ _ _ _ (by simp)]; exact unhide G1
        · rw [block_setCell (unhide G2), Hset.out]
      case measure => simp [intOf]; omega
    · have h2 : wr.heap[w.heap.size + 1 + 1]? = some (.cells (iv .u8 (bytesOf zs)) 247 (0, 0)) := by
        rw [g2, show n = 64 by omega, partB_all]
      clear g2
      go_wp2_with (first | (refine wpList_load_row rfl 247 _ rfl _ rfl _ _ _ _ h2 Tryz.underlying247 rfl (by rw [iv_size, bytesOf_len]; exact size64) ?_) | (refine wpList_store_row rfl 247 _ _ rfl _ (iv .u8 (bytesOf zs)) rfl rfl _ _ g1 (by rw [iv_size, bytesOf_len]; exact size64) (by rw [iv_size, bytesOf_len]; exact ho) (iv_one _ _) ?_))
      exact bodyPost_ret (v := .agg (iv .u8 (bytesOf zs))) (results_cell_row Tryz.results182 _ _ (w.heap.size + 1) _ (iv .u8 (bytesOf zs)) (0, 0) _ rfl (setRow_heap _ _ _ _ _ _ g1) Tryz.underlying247 rfl (by rw [iv_size, bytesOf_len]; exact size64)) rfl ⟨rfl, below_row hb (by omega) _⟩

end Go.Proofs.YtiafhcgaikapcaaGreat


/-
  word.OfBytes: what it returns; nothing that was there turns.
-/
namespace Go.Proofs.YtiafhcgaikapcaaGreat
open Go.ChangeShapes Go.WideShapes Go.ChangeAt Go.RowKit Go.Joins
set_option maxRecDepth 10000
set_option linter.unusedVariables false

theorem wfs_u8 {zs : List Int} (hw : ∀ z ∈ zs, (Lit.int .u8 z).wf = true) (j : Nat) : 0 ≤ zs.getD j 0 ∧ zs.getD j 0 ≤ 255 := by
  have := range_u8 hw j
  simpa using this
theorem size8 : (Tryz.prog.info? 83).map (·.size) = some 8 := by kernel_rfl

end Go.Proofs.YtiafhcgaikapcaaGreat


/-
  crc.Seal, crc.Good and the document's: what each call returns for every line; nothing that was there turns.
-/
namespace Go.Proofs.YtiafhcgaikapcaaGreat
open Go.ChangeShapes Go.WideShapes Go.ChangeAt Go.RowKit Go.Joins
set_option maxRecDepth 10000
set_option linter.unusedVariables false

theorem sealOf_wf (zs : List Int) (hw : ∀ z ∈ zs, (Lit.int .u64 z).wf = true) : ∀ z ∈ sealOf zs, (Lit.int .u64 z).wf = true := fun z hz => by
  rcases List.mem_or_eq_of_mem_set hz with h | h
  · exact hw z h
  · have := sealW_bd zs
    rw [h]
    simp [Lit.wf, IntKind.min, IntKind.max, IntKind.signed, IntKind.bits]; omega
theorem seal_any (zs : List Int) (hl : zs.length = 8) (hw : ∀ z ∈ zs, (Lit.int .u64 z).wf = true) (w : World) :
    Calls Tryz.prog 176 #[.agg (iv .u64 zs)] w fun e w' => e = .returned (.agg (iv .u64 (sealOf zs))) ∧ Below w.heap.size w w' := by
  have s8 : (Tryz.prog.info? 83).map (·.size) = some (iv .u64 zs).size := by rw [iv_size, hl]; exact size8
  have s8b : (Tryz.prog.info? 83).map (·.size) = some (iv .u64 (sealOf zs)).size := by rw [iv_size, sealOf_len, hl]; exact size8
  have G0 : Hid (∀ B : Obj, ((w.alloc (.cells (iv .u64 zs) 83)).alloc B).heap[w.heap.size]? = some (.cells (iv .u64 zs) 83 (0, 0))) := fun B => by rw [Below.heap_alloc _ _ _ (by simp), heap_new]
  have G1 : Hid (∀ B : Obj, ((w.alloc (.cells (iv .u64 zs) 83)).alloc B).heap[w.heap.size + 1]? = some B) := fun B => by
    have := heap_new (w.alloc (.cells (iv .u64 zs) 83)) B
    simpa using this
  have C1 := hide (bytes_any zs hl hw)
  have hB : (iv .u8 (bytesOf zs)).size = 64 := by rw [iv_size, bytesOf_len]
  have hst : ∀ (W : World) (C : Array Value), C.size = 64 → Sem.run Tryz.prog (storeCells ⟨W.heap.size, 0, none⟩ (iv .u8 (bytesOf zs)).toList) (W.alloc (.cells C 247)) = .ok () (W.alloc (.cells (iv .u8 (bytesOf zs)) 247)) :=
    fun W C hC => run_store_new _ _ rfl C _ _ (by rw [hC, hB]) (iv_one _ _)
  have Hm := hide (moreN_lt (s := 0) (b8_take (bytesOf_b8 zs) 56) (by decide))
  have C2 : Hid (∀ W : World, Calls Tryz.prog 205 #[.slice (some ⟨W.heap.size, 0, none⟩) 56 64] (W.alloc (.cells (iv .u8 (bytesOf zs)) 247)) fun e w' => e = .returned (.int .u32 ((moreN 0 ((bytesOf zs).take 56) : Nat) : Int)) ∧ w' = W.alloc (.cells (iv .u8 (bytesOf zs)) 247)) := fun W => by
    refine sum_len _ ((bytesOf zs).take 56) 56 64 (by simp [bytesOf_len]) (b8_take (bytesOf_b8 zs) 56) (by decide) _ (lies_take (Or.inr ⟨_, _, rfl, fun i hi => ?_⟩) 56)
    rw [cell_of_block (heap_new W _), Nat.zero_add, iv_get _ _ _ hi]
  have Hset : Hid ((iv .u64 zs).setIfInBounds 7 (.int .u64 (4294967296 + ((moreN 0 ((bytesOf zs).take 56) : Nat) : Int))) = iv .u64 (sealOf zs)) := by show _ = _; rw [iv_set]; rfl
  go_enter Tryz.func176, Tryz.ntmps176
  go_wp2_with (refine wpList_load_row rfl 83 _ rfl _ rfl _ _ _ _ (unhide G0 _) Tryz.underlying83 rfl s8 ?_)
  refine (unhide C1 _).mono ?_
  rintro e w1 ⟨rfl, hb1⟩
  have hsz : w.heap.size + 1 + 1 ≤ w1.heap.size := by have := hb1.size; simpa using this
  have K0 := hide ((hb1.block w.heap.size (by simp; omega)).trans (unhide G0 _))
  have K1 := hide ((hb1.block (w.heap.size + 1) (by simp)).trans (unhide G1 _))
  have Hb := hide ((below_alloc2 w _ _).trans (hb1.mono (by simp; omega)))
  clear hb1
  go_wp2_with fail
  refine (unhide C2 _).mono ?_
  rintro e w2 ⟨rfl, rfl⟩
  have hm := unhide Hm
  have K2 := hide ((Below.heap_alloc w1 (.cells (iv .u8 (bytesOf zs)) 247) w.heap.size (by omega)).trans (unhide K0))
  have K3 := hide ((Below.heap_alloc w1 (.cells (iv .u8 (bytesOf zs)) 247) (w.heap.size + 1) (by omega)).trans (unhide K1))
  have Hb2 := hide ((unhide Hb).alloc (by omega) (.cells (iv .u8 (bytesOf zs)) 247))
  clear hst C2 K0 K1 Hb hB C1
  generalize w1.alloc (.cells (iv .u8 (bytesOf zs)) 247) = W2 at *
  generalize moreN 0 ((bytesOf zs).take 56) = m at *
  have c7 : W2.cell? ⟨w.heap.size, 7, none⟩ = some (.int .u64 (zs.getD 7 0)) := by rw [cell_of_block (unhide K2), iv_get _ _ _ (by omega)]
  have f7 : W2.frozen? ⟨w.heap.size, 7, none⟩ = false := unfrozen_of_block (unhide K2) _
  have K4 := hide ((block_setCell (i := 7) (unhide K2) (.int .u64 (4294967296 + (m : Int)))).trans (by rw [unhide Hset]))
  have K5 := hide ((heap_setCell_other W2 ⟨w.heap.size, 7, none⟩ (w.heap.size + 1) (.int .u64 (4294967296 + (m : Int))) (by simp)).trans (unhide K3))
  have Hb3 := hide ((unhide Hb2).setCell (p := ⟨w.heap.size, 7, none⟩) (by simp) (.int .u64 (4294967296 + (m : Int))))
  go_wp2_with (first | (refine wpList_load_row rfl 83 _ rfl _ rfl _ _ _ _ (unhide K4) Tryz.underlying83 rfl s8b ?_) | (refine wpList_store_row rfl 83 _ _ rfl _ (iv .u64 (sealOf zs)) rfl rfl _ _ (unhide K5) s8b (by rw [iv_size, sealOf_len, hl]; rfl) (iv_one _ _) ?_))
  exact bodyPost_ret (v := .agg (iv .u64 (sealOf zs))) (results_cell_row Tryz.results176 _ _ (w.heap.size + 1) _ (iv .u64 (sealOf zs)) (0, 0) _ rfl (setRow_heap _ _ _ _ _ _ (unhide K5)) Tryz.underlying83 rfl s8b) rfl ⟨rfl, below_row (unhide Hb3) (by omega) _⟩

theorem rseal_any (zs : List Int) (hl : zs.length = 8) (hw : ∀ z ∈ zs, (Lit.int .u64 z).wf = true) (w : World) :
    Calls Tryz.prog 130 #[.agg (iv .u64 zs)] w fun e w' => e = .returned (.agg (iv .u64 (sealOf zs))) ∧ Below w.heap.size w w' := by
  have s8 : (Tryz.prog.info? 83).map (·.size) = some (iv .u64 zs).size := by rw [iv_size, hl]; exact size8
  have s8b : (Tryz.prog.info? 83).map (·.size) = some (iv .u64 (sealOf zs)).size := by rw [iv_size, sealOf_len, hl]; exact size8
  have G0 : Hid (∀ B : Obj, ((w.alloc (.cells (iv .u64 zs) 83)).alloc B).heap[w.heap.size]? = some (.cells (iv .u64 zs) 83 (0, 0))) := fun B => by rw [Below.heap_alloc _ _ _ (by simp), heap_new]
  have G1 : Hid (∀ B : Obj, ((w.alloc (.cells (iv .u64 zs) 83)).alloc B).heap[w.heap.size + 1]? = some B) := fun B => by
    have := heap_new (w.alloc (.cells (iv .u64 zs) 83)) B
    simpa using this
  have C1 := hide (rbytes_any zs hl hw)
  have hB : (iv .u8 (bytesOf zs)).size = 64 := by rw [iv_size, bytesOf_len]
  have hst : ∀ (W : World) (C : Array Value), C.size = 64 → Sem.run Tryz.prog (storeCells ⟨W.heap.size, 0, none⟩ (iv .u8 (bytesOf zs)).toList) (W.alloc (.cells C 247)) = .ok () (W.alloc (.cells (iv .u8 (bytesOf zs)) 247)) :=
    fun W C hC => run_store_new _ _ rfl C _ _ (by rw [hC, hB]) (iv_one _ _)
  have Hm := hide (moreN_lt (s := 0) (b8_take (bytesOf_b8 zs) 56) (by decide))
  have C2 : Hid (∀ W : World, Calls Tryz.prog 183 #[.slice (some ⟨W.heap.size, 0, none⟩) 56 64] (W.alloc (.cells (iv .u8 (bytesOf zs)) 247)) fun e w' => e = .returned (.int .u32 ((moreN 0 ((bytesOf zs).take 56) : Nat) : Int)) ∧ w' = W.alloc (.cells (iv .u8 (bytesOf zs)) 247)) := fun W => by
    refine rsum_len _ ((bytesOf zs).take 56) 56 64 (by simp [bytesOf_len]) (b8_take (bytesOf_b8 zs) 56) (by decide) _ (lies_take (Or.inr ⟨_, _, rfl, fun i hi => ?_⟩) 56)
    rw [cell_of_block (heap_new W _), Nat.zero_add, iv_get _ _ _ hi]
  have Hset : Hid ((iv .u64 zs).setIfInBounds 7 (.int .u64 (bits .or .u64 ((moreN 0 ((bytesOf zs).take 56) : Nat) : Int) 4294967296)) = iv .u64 (sealOf zs)) := by show _ = _; rw [or_mark _ (unhide Hm), iv_set]; rfl
  go_enter Tryz.func130, Tryz.ntmps130
  go_wp2_with (refine wpList_load_row rfl 83 _ rfl _ rfl _ _ _ _ (unhide G0 _) Tryz.underlying83 rfl s8 ?_)
  refine (unhide C1 _).mono ?_
  rintro e w1 ⟨rfl, hb1⟩
  have hsz : w.heap.size + 1 + 1 ≤ w1.heap.size := by have := hb1.size; simpa using this
  have K0 := hide ((hb1.block w.heap.size (by simp; omega)).trans (unhide G0 _))
  have K1 := hide ((hb1.block (w.heap.size + 1) (by simp)).trans (unhide G1 _))
  have Hb := hide ((below_alloc2 w _ _).trans (hb1.mono (by simp; omega)))
  clear hb1
  go_wp2_with fail
  refine (unhide C2 _).mono ?_
  rintro e w2 ⟨rfl, rfl⟩
  have hm := unhide Hm
  have K2 := hide ((Below.heap_alloc w1 (.cells (iv .u8 (bytesOf zs)) 247) w.heap.size (by omega)).trans (unhide K0))
  have K3 := hide ((Below.heap_alloc w1 (.cells (iv .u8 (bytesOf zs)) 247) (w.heap.size + 1) (by omega)).trans (unhide K1))
  have Hb2 := hide ((unhide Hb).alloc (by omega) (.cells (iv .u8 (bytesOf zs)) 247))
  clear hst C2 K0 K1 Hb hB C1
  generalize w1.alloc (.cells (iv .u8 (bytesOf zs)) 247) = W2 at *
  generalize moreN 0 ((bytesOf zs).take 56) = m at *
  have c7 : W2.cell? ⟨w.heap.size, 7, none⟩ = some (.int .u64 (zs.getD 7 0)) := by rw [cell_of_block (unhide K2), iv_get _ _ _ (by omega)]
  have f7 : W2.frozen? ⟨w.heap.size, 7, none⟩ = false := unfrozen_of_block (unhide K2) _
  have K4 := hide ((block_setCell (i := 7) (unhide K2) (.int .u64 (bits .or .u64 (m : Int) 4294967296))).trans (by rw [unhide Hset]))
  have K5 := hide ((heap_setCell_other W2 ⟨w.heap.size, 7, none⟩ (w.heap.size + 1) (.int .u64 (bits .or .u64 (m : Int) 4294967296)) (by simp)).trans (unhide K3))
  have Hb3 := hide ((unhide Hb2).setCell (p := ⟨w.heap.size, 7, none⟩) (by simp) (.int .u64 (bits .or .u64 (m : Int) 4294967296)))
  go_wp2_with (first | (refine wpList_load_row rfl 83 _ rfl _ rfl _ _ _ _ (unhide K4) Tryz.underlying83 rfl s8b ?_) | (refine wpList_store_row rfl 83 _ _ rfl _ (iv .u64 (sealOf zs)) rfl rfl _ _ (unhide K5) s8b (by rw [iv_size, sealOf_len, hl]; rfl) (iv_one _ _) ?_))
  exact bodyPost_ret (v := .agg (iv .u64 (sealOf zs))) (results_cell_row Tryz.results130 _ _ (w.heap.size + 1) _ (iv .u64 (sealOf zs)) (0, 0) _ rfl (setRow_heap _ _ _ _ _ _ (unhide K5)) Tryz.underlying83 rfl s8b) rfl ⟨rfl, below_row (unhide Hb3) (by omega) _⟩


theorem rgood_any (zs : List Int) (hl : zs.length = 8) (hw : ∀ z ∈ zs, (Lit.int .u64 z).wf = true) (W : World) :
    Calls Tryz.prog 200 #[.agg (iv .u64 zs)] W fun e w' => e = .returned (.bool (goodB zs)) ∧ Below W.heap.size W w' := by
  obtain ⟨ds, hds⟩ : ∃ ds : List Value, ds = zs.map (fun z => Value.int .u64 z) := ⟨_, rfl⟩
  have hdl : ds.length = 8 := by rw [hds]; simpa using hl
  have hdi : iv .u64 zs = ds.toArray := by rw [hds]; rfl
  have hj : (Tryz.prog.info? 83).map (·.size) = some ds.length := by rw [hdl]; exact size8
  have HB : Hid (∀ w : World, Calls Tryz.prog 130 #[.agg ds.toArray] w fun e w' => e = .returned (.agg (iv .u64 (sealOf zs))) ∧ Below w.heap.size w w') := fun w => by rw [← hdi]; exact rseal_any zs hl hw w
  have hm2 : Tryz.prog.eqGuardType Tryz.prog.depth 83 = false := by kernel_rfl
  have Q1 : Hid (∀ w : World, (Op.equalIn 10000 83 (.agg (iv .u64 (sealOf zs))) (.agg ds.toArray)).run Tryz.prog w = .ok (goodB zs) w) := fun w => by
    rw [← hdi, run_equalIn_ints w 9998 83 52 .u64 8 Tryz.underlying83 Tryz.underlying52 (by kernel_rfl) _ _ (by rw [sealOf_len, hl]) hl, good_seal' zs hl]
  rw [hdi]
  clear hds hdi hw
  obtain ⟨W0, hW0⟩ : ∃ W0 : World, W0 = W.alloc (.cells ds.toArray 83) := ⟨_, rfl⟩
  have Hsz : Hid (W0.heap.size = W.heap.size + 1) := by show _ = _; rw [hW0]; simp
  have Hbel : Hid (Below W.heap.size W W0) := by rw [hW0]; exact (Below.refl _ _).alloc (Nat.le_refl _) _
  have g0 : W0.heap[W.heap.size]? = some (.cells ds.toArray 83 (0, 0)) := by rw [hW0, heap_new]
  have HS0 : Hid ((fun w' : World => Below (W.heap.size + 1) W0 w' ∧ w'.rangeAt W.heap.size 0 ds) W0.drew) := by
    refine ⟨(Below.refl _ _).drew, ?_⟩
    intro j v hv
    show W0.cell? _ = _
    rw [cell_of_block g0, Nat.zero_add]; simpa using hv
  have Hk : Hid (∀ w' w'' : World, (Below (W.heap.size + 1) W0 w' ∧ w'.rangeAt W.heap.size 0 ds) → Below w'.heap.size w' w'' → (fun w' : World => Below (W.heap.size + 1) W0 w' ∧ w'.rangeAt W.heap.size 0 ds) w'') := by
    rintro w' w'' ⟨h1, h2⟩ hb
    have h4 := h1.size
    rw [unhide Hsz] at h4
    exact ⟨h1.trans (hb.mono h4), range_below hb (by omega) h2⟩
  have HW0 := hide hW0
  clear g0 hW0
  go_enter Tryz.func200, Tryz.ntmps200
  go_wp2_with fail
  rw [← unhide HW0]
  refine wp_region_noPanic ?_
  refine wp_region_held_drew (S := fun w' => Below (W.heap.size + 1) W0 w' ∧ w'.rangeAt W.heap.size 0 ds) (by kernel_rfl) (unhide HS0) (fun hHeld => ?_)
  refine take_at 0 3 rfl rfl (by kernel_rfl) (by kernel_rfl) (by kernel_rfl) (yieldsIf_load_mid (by rfl) 83 _ rfl W.heap.size 0 rfl ds _ (fun w h => h.2) Tryz.underlying83 rfl hj) hHeld ?_
  simp only [Act.put, List.setIfInBounds_toArray, List.set_cons_zero, List.set_cons_succ]
  refine take_at 2 5 rfl rfl (by kernel_rfl) (by kernel_rfl) (by kernel_rfl) (yieldsIf_load_mid (by rfl) 83 _ rfl W.heap.size 0 rfl ds _ (fun w h => h.2) Tryz.underlying83 rfl hj) hHeld ?_
  simp only [Act.put, List.setIfInBounds_toArray, List.set_cons_zero, List.set_cons_succ]
  refine wpAnyH_ready (rs := [1]) (by kernel_rfl) (by simp) ?_
  refine AllReadyH.cons rfl (fun K hK => ?_) AllReadyH.nil
  go_simp
  refine (unhide HB _).mono ?_
  rintro e w' ⟨rfl, hbx⟩
  go_wp2_with fail
  refine hK.out _ _ (unhide Hk _ _ hHeld hbx) (fun hNew => ?_)
  clear hK K hHeld hbx
  have hHeld := hNew
  clear hNew
  refine take_at 3 6 rfl rfl (by kernel_rfl) (by kernel_rfl) (by kernel_rfl) (yieldsIf_eql (by rfl) 83 83 _ _ rfl (iv .u64 (sealOf zs)) ds.toArray rfl rfl hm2 (goodB zs) (unhide Q1)) hHeld ?_
  simp only [Act.put, List.setIfInBounds_toArray, List.set_cons_zero, List.set_cons_succ]
  refine take_at 4 2 (v := ?_) rfl rfl (by kernel_rfl) (by kernel_rfl) (by kernel_rfl) (Or.inl ⟨by rfl, ?_⟩) hHeld ?_
  rotate_left
  · intro w hSw; go_simp; with_reducible rfl
  simp only [Act.put, List.setIfInBounds_toArray, List.set_cons_zero, List.set_cons_succ]
  refine wpAnyH_done (by kernel_rfl) ?_ _
  refine NoPanic.normal ?_
  go_wp2_with fail
  go_ret
  exact ⟨rfl, (unhide Hbel).trans ((hHeld.1).mono (by omega))⟩

end Go.Proofs.YtiafhcgaikapcaaGreat


/-
  '==' and '!=' on superblocks and lines.
-/
namespace Go.Proofs.YtiafhcgaikapcaaGreat
open Go.ChangeShapes Go.WideShapes Go.ChangeAt Go.RowKit Go.Joins
set_option maxRecDepth 10000

theorem super_guard : Tryz.prog.eqGuardType Tryz.prog.depth 49 = false := by kernel_rfl
theorem line_guard2 : Tryz.prog.eqGuardType Tryz.prog.depth 83 = false := by kernel_rfl
theorem super_fields : ((Tryz.prog.fieldsOf 49).toList.map fun f => (decide (f.name = "_"), f.type, f.offset)) = [(false, 3, 0), (false, 3, 1), (false, 3, 2), (false, 3, 3)] := by kernel_rfl
theorem equal_super (s t : List Int) (hs : s.length = 4) (ht : t.length = 4) (w : World) : (Op.equalIn 10000 49 (.agg (iv .i64 s)) (.agg (iv .i64 t))).run Tryz.prog w = .ok (decide (s = t)) w := by
  rw [run_equalIn_struct w 9999 49 _ _ (by kernel_rfl) (by kernel_rfl)]
  have hf := super_fields
  generalize (Tryz.prog.fieldsOf 49).toList = fs at hf
  have hl : fs.length = 4 := by have := congrArg List.length hf; simpa using this
  have h := run_eqFields_ints (P := Tryz.prog) w 9998 3 .i64 Tryz.underlying3 s t (by rw [hs, ht]) fs 0 (fun i f hi => by
    have h1 := congrArg (fun x => x[i]?) hf
    simp only [List.getElem?_map, hi, Option.map_some] at h1
    match i with
    | 0 | 1 | 2 | 3 => simp at h1; exact ⟨h1.1, h1.2.1, by omega⟩
    | n + 4 => simp at h1) (by rw [hl, hs])
  simpa using h
theorem equal_line (s t : List Int) (hs : s.length = 8) (ht : t.length = 8) (w : World) : (Op.equalIn 10000 83 (.agg (iv .u64 s)) (.agg (iv .u64 t))).run Tryz.prog w = .ok (decide (s = t)) w :=
  run_equalIn_ints w 9998 83 52 .u64 8 Tryz.underlying83 Tryz.underlying52 (by kernel_rfl) _ _ hs ht

end Go.Proofs.YtiafhcgaikapcaaGreat
