import Derived.WalkKit
import Derived.WalkLawsBesides
import Derived.ProofKit
import Derived.OpenShut
import Derived.Laws.AppendOwnNone
import Derived.Laws.BytesArg
import Derived.Deep.Draws
import Derived.Test.YtiafhcgaikapcaaRows2
import Derived.Test.YtiafhcgaikapcaaCMath
import Derived.Test.YtiafhcgaikapcaaRows
import Derived.Test.YtiafhcgaikapcaaWCalls
import Derived.Test.YtiafhcgaikapcaaWLineMath
import Derived.Test.YtiafhcgaikapcaaPkCr
import Derived.Test.YtiafhcgaikapcaaEqual
import Derived.Test.YtiafhcgaikapcaaEqS

/-
  Rows of bytes behind slices: read off an argument, appended to a slice of the call's own, made a string. Over any program.
-/
namespace Go.Proofs.Ytiafhcgaikapcaa
open Go.ChangeShapes Go.WideShapes Go.ChangeAt Go.RowKit Go.Joins
set_option maxRecDepth 10000

/-- A row of bytes lies where a slice leads. -/
def Lies (w : World) (a : Option Addr) (bs : List Int) : Prop :=
  bs = [] ∨ ∃ b off, a = some ⟨b, off, none⟩ ∧ ∀ i, i < bs.length → w.cell? ⟨b, off + i, none⟩ = some (.int .u8 (bs.getD i 0))

theorem add_none (b off j : Nat) : (⟨b, off, none⟩ : Addr).add j = ⟨b, off + j, none⟩ := by unfold Addr.add; split <;> simp_all

theorem lies_take {w : World} {a : Option Addr} {bs : List Int} (h : Lies w a bs) (n : Nat) : Lies w a (bs.take n) := by
  rcases h with rfl | ⟨b, off, rfl, h⟩
  · left; simp
  · right
    refine ⟨b, off, rfl, fun i hi => ?_⟩
    have hi' : i < n ∧ i < bs.length := by rw [List.length_take] at hi; omega
    rw [h i hi'.2, List.getD_eq_getElem?_getD, List.getD_eq_getElem?_getD, List.getElem?_take, if_pos hi'.1]

theorem block_of_cell {w : World} {b o : Nat} {v : Value} (h : w.cell? ⟨b, o, none⟩ = some v) : b < w.heap.size := by
  rcases Nat.lt_or_ge b w.heap.size with h' | h'
  · exact h'
  · simp [World.cell?, Array.getElem?_eq_none h'] at h

theorem lies_below {B : Nat} {w w' : World} {a : Option Addr} {bs : List Int} (h : Lies w a bs) (hB : w.heap.size ≤ B) (hb : Below B w w') : Lies w' a bs := by
  rcases h with rfl | ⟨b, off, rfl, h⟩
  · left; rfl
  · right
    refine ⟨b, off, rfl, fun i hi => ?_⟩
    have := block_of_cell (h i hi)
    rw [hb.cell (p := ⟨b, off + i, none⟩) (show b < B by omega)]; exact h i hi

def IsBytes (W : World) (a : Option Addr) (bs : List Int) (n cap : Nat) : Prop :=
  bs.length = n ∧ Lies W a bs ∧ Bytes8 bs ∧ n ≤ cap ∧ cap ≤ 9223372036854775807 ∧ (a = none → cap = 0)

/-- What a slice of bytes among the arguments is. -/
theorem open_row {H : Type} {enc : TypeId × Value → H} {P : Program} {t e : TypeId} (ht : P.underlying t = some (.slice e)) (he : P.underlying e = some (.int .u8)) (hc : P.cellsOf e = 1)
    {W : World} {r : Reach} {b0 : Nat} {v : Value} {d : DataW H} {p : List MemPlace} (hv : Value.okWide P W r b0 t v) (h : DataW.Trod enc P W 0 (fun _ => true) true t v d p) :
    ∃ (a : Option Addr) (bs : List Int) (n cap : Nat), v = .slice a n cap ∧ IsBytes W a bs n cap := by
  obtain ⟨a, len, cap, rfl⟩ := okWide_slice ht hv
  obtain ⟨fuel, hf⟩ := h
  rcases open_ints ht he hc hf with ⟨hcs, _⟩ | ⟨x, l, c, zs, hcs, _, hl, hm, hz, _, hcell, hwz⟩
  · simp [Value.cells] at hcs
    obtain ⟨rfl, rfl, rfl⟩ := hcs
    exact ⟨none, [], 0, 0, rfl, rfl, Or.inl rfl, by simp [Bytes8], Nat.le_refl _, by decide, fun _ => rfl⟩
  · simp [Value.cells] at hcs
    obtain ⟨rfl, rfl, rfl⟩ := hcs
    have hz' : zs.length = cap := by simpa using hz
    have hb8 : Bytes8 zs := fun z hz => by
      have := hwz z hz
      simp [Lit.wf, IntKind.min, IntKind.max, IntKind.signed, IntKind.bits] at this; omega
    refine ⟨some x, zs.take len, len, cap, rfl, by rw [List.length_take]; omega, ?_, b8_take hb8 len, hl, hm, by simp⟩
    by_cases h0 : len = 0
    · left; rw [h0]; rfl
    · refine lies_take (Or.inr ?_) len
      obtain ⟨b, off, spot⟩ := x
      have hspot : spot = none := by simpa [Addr.add] using World.cell?_spot (hcell 0 (by omega))
      subst hspot
      refine ⟨b, off, rfl, fun i hi => ?_⟩
      rw [← add_none]; exact hcell i hi

/-- A slice of the call's own, whose row is known: as a row that lies there. -/
theorem lies_own {w : World} {base : Nat} {e : TypeId} {v : Value} {n : Nat} {bs : List Int} (h : w.ownsRow base e 1 v n (bs.map (Value.int .u8))) :
    ∃ a cap, v = .slice a n cap ∧ Lies w a bs ∧ bs.length = n ∧ n ≤ cap ∧ cap ≤ 9223372036854775807 ∧ (a = none → cap = 0) := by
  have hlen : bs.length = n := by have := h.1; simpa using this
  rcases h.2 with ⟨rfl, rfl⟩ | ⟨g, cap, cur, rfl, _, hg, hnc, hcm, hcs, htake⟩
  · exact ⟨none, 0, rfl, Or.inl (List.length_eq_zero_iff.1 hlen), hlen, Nat.le_refl _, by decide, fun _ => rfl⟩
  · refine ⟨_, cap, rfl, Or.inr ⟨g, 0, rfl, fun i hi => ?_⟩, hlen, hnc, hcm, by simp⟩
    rw [Nat.zero_add, h.cellAt i (by omega), List.getElem?_map, List.getElem?_eq_getElem hi, List.getD_eq_getElem?_getD, List.getElem?_eq_getElem hi]
    rfl

theorem lies_own_some {w : World} {base : Nat} {e : TypeId} {v : Value} {n : Nat} {bs : List Int} (h : w.ownsRow base e 1 v n (bs.map (Value.int .u8))) (hv : v ≠ .slice none 0 0) :
    ∃ g cap, v = .slice (some ⟨g, 0, none⟩) n cap ∧ base ≤ g ∧ g < w.heap.size ∧ bs.length = n ∧ n ≤ cap ∧ cap ≤ 9223372036854775807 ∧ (∀ i, i < bs.length → w.cell? ⟨g, i, none⟩ = some (.int .u8 (bs.getD i 0))) ∧ ∀ i, w.frozen? ⟨g, i, none⟩ = false := by
  have hlen : bs.length = n := by have := h.1; simpa using this
  rcases h.2 with ⟨rfl, rfl⟩ | ⟨g, cap, cur, rfl, hb, hg, hnc, hcm, hcs, htake⟩
  · exact absurd rfl hv
  · refine ⟨g, cap, rfl, hb, ?_, hlen, hnc, hcm, fun i hi => ?_, fun i => unfrozen_of_block hg i⟩
    · rcases Nat.lt_or_ge g w.heap.size with h' | h'
      · exact h'
      · simp [Array.getElem?_eq_none h'] at hg
    · rw [h.cellAt i (by omega), List.getElem?_map, List.getElem?_eq_getElem hi, List.getD_eq_getElem?_getD, List.getElem?_eq_getElem hi]
      rfl

theorem lies_draws {w : World} {a : Option Addr} {bs : List Int} (h : Lies w a bs) (n : Nat) : Lies (w.drewN n) a bs := by
  rcases h with rfl | ⟨b, off, rfl, h⟩
  · left; rfl
  · exact Or.inr ⟨b, off, rfl, fun i hi => h i hi⟩

theorem lies_at {W : World} {a : Option Addr} {bs : List Int} (h : Lies W a bs) (j : Nat) (hj : j < bs.length) :
    ∃ b o, a = some ⟨b, o, none⟩ ∧ ∀ w' : World, Below W.heap.size W w' → w'.cell? ⟨b, o + j, none⟩ = some (.int .u8 (bs.getD j 0)) := by
  rcases h with rfl | ⟨b, off, rfl, h⟩
  · simp at hj
  · refine ⟨b, off, rfl, fun w' hb => ?_⟩
    rw [hb.cell (p := ⟨b, off + j, none⟩) (block_of_cell (h j hj))]; exact h j hj

theorem lies_set {w : World} {base : Nat} {e : TypeId} {g n cap : Nat} {bs : List Int} (h : w.ownsRow base e 1 (.slice (some ⟨g, 0, none⟩) n cap) n (bs.map (Value.int .u8))) (hn : bs.length = n) (q : Nat) (x y : Int) (hxy : x = y) :
    Lies ((w.setCell ⟨g, q, none⟩ (.int .u8 x)).drew) (some ⟨g, 0, none⟩) (bs.set q y) := by
  subst hxy
  rcases h.2 with ⟨h', _⟩ | ⟨g', cap', cur, h', _, hg, hnc, _, hcs, htake⟩
  · simp at h'
  · simp only [Value.slice.injEq, Option.some.injEq, Addr.mk.injEq, and_true, true_and] at h'
    obtain ⟨rfl, rfl⟩ := h'
    refine Or.inr ⟨g, 0, rfl, fun i hi => ?_⟩
    rw [List.length_set] at hi
    show (w.setCell _ _).cell? _ = _
    rw [cell_of_block (block_setCell hg _), Nat.zero_add]
    have hc : cur[i]? = some (.int .u8 (bs.getD i 0)) := by
      have := h.cellAt i (by omega)
      rw [cell_of_block hg] at this
      rw [this, List.getElem?_map, List.getElem?_eq_getElem hi, List.getD_eq_getElem?_getD, List.getElem?_eq_getElem hi]; rfl
    by_cases hq : q = i
    · subst hq
      have hlt : q < cur.size := by omega
      rw [Array.getElem?_setIfInBounds_self_of_lt hlt, List.getD_eq_getElem?_getD, List.getElem?_set_self hi]; rfl
    · rw [Array.getElem?_setIfInBounds_ne hq, hc, List.getD_eq_getElem?_getD, List.getD_eq_getElem?_getD, List.getElem?_set, if_neg hq]

theorem grown_refl (w : World) (r : Option Nat) : w.grownBy w r := ⟨rfl, rfl, rfl, Nat.le_refl _, fun _ _ _ => rfl⟩

theorem below_grown {w w' : World} {base : Nat} {e : TypeId} {v : Value} {n : Nat} {xs : List Value} (hown : w.ownsRow base e 1 v n xs) (hbase : base ≤ w.heap.size) (hg : w.grownBy w' v.ownBlock) : Below base w w' := by
  refine (Below.refl base w).grown hg hbase fun k hk => ?_
  rcases hown.2 with ⟨rfl, _⟩ | ⟨g, cap, cur, rfl, hb, _⟩
  · simp [Value.ownBlock] at hk
  · simp [Value.ownBlock] at hk; omega

/-- 'append(own, xs...)': a row of bytes behind a slice of the call's own. -/
theorem wpList_append_lies {P : Program} {w : World} {ops : Array Oper} {rest : List Oper} {o : Oper} {a : Act} {Q : Exit → Act → World → Prop} (hgd : o.guard = none) (s x : Operand) (t : TypeId)
    (ho : o.op = .call { callee := .builtin .append, args := #[s, x], argTypes := #[t, t] }) (base : Nat) (e : TypeId) (ht : P.underlying t = some (.slice e))
    (hinfo : (P.info? e).map (fun i => (i.zero, i.size, i.bytes)) = some (some (.int .u8 0), 1, 1))
    (v : Value) (n : Nat) (xs : List Int) (hs : a.eval s = v) (hown : w.ownsRow base e 1 v n (xs.map (Value.int .u8)))
    (ao : Option Addr) (m c : Nat) (hx : a.eval x = .slice ao m c) (bs : List Int) (hm : bs.length = m) (hl : Lies w ao bs) (hno : ao = none → c = 0) (hbd : n + m ≤ 140737488355328) (hbase : base ≤ w.heap.size)
    (h : ∀ v' w', w'.ownsRow base e 1 v' (n + m) ((xs ++ bs).map (Value.int .u8)) → Below base w w' → (v ≠ .slice none 0 0 → v' ≠ .slice none 0 0) → wpList P ops Q rest (a.put o.dst v') w') : wpList P ops Q (o :: rest) a w := by
  obtain ⟨i0, hi, hz0, hz1, hz2⟩ := info_parts hinfo
  cases ao with
  | none =>
    have hb0 : bs = [] := by
      rcases hl with h | ⟨_, _, h, _⟩
      · exact h
      · simp at h
    subst hb0
    obtain rfl : m = 0 := hm.symm
    rw [hno rfl] at hx
    refine wpList_append_own_none hgd s x t ho base e i0 1 ht hi v n (xs.map (Value.int .u8)) hs hown hx ?_
    exact h v w (by simpa using hown) (Below.refl _ _) id
  | some ad =>
    refine wpList_append_own w hgd s x t ho base e i0 (.int .u8 0) 1 1 ht hi hz0 hz1 hz2 rfl (by decide) v n (xs.map (Value.int .u8)) hs hown ad m c (bs.map (Value.int .u8)) hx (by simpa using hm) ?_ ?_ (by unfold maxLen; omega) (by omega) hbase ?_
    · intro j u hj
      rw [List.getElem?_map] at hj
      obtain ⟨z, hz, rfl⟩ := Option.map_eq_some_iff.1 hj
      have hjl : j < bs.length := by
        rcases Nat.lt_or_ge j bs.length with h | h
        · exact h
        · rw [List.getElem?_eq_none h] at hz; simp at hz
      rcases hl with h | ⟨b, off, h1, h2⟩
      · rw [h] at hjl; simp at hjl
      · obtain rfl : ad = ⟨b, off, none⟩ := by simpa using h1
        have := h2 j hjl
        rw [List.getD_eq_getElem?_getD, hz] at this
        rw [add_none]; exact this
    · intro u hu
      obtain ⟨z, _, rfl⟩ := List.mem_map.1 hu
      rfl
    · intro v' w' h1 h2 h3
      refine h v' w' ?_ (below_grown hown hbase h2) fun hv hv' => hv (h3.1 hv').1
      rw [List.map_append]; exact h1

/-- A row of bytes, as a string. -/
theorem conv_lies {P : Program} {w : World} {src dst e : TypeId} (hs : P.underlying src = some (.slice e)) (he : P.underlying e = some (.int .u8)) (hd : P.underlying dst = some .string)
    {a : Option Addr} {bs : List Int} (n cap : Nat) (hn : bs.length = n) (h : Lies w a bs) : (convert src dst (.slice a n cap)).run P w = .ok (.string (strOfNums bs)) w := by
  rcases h with rfl | ⟨b, off, rfl, h⟩
  · obtain rfl : n = 0 := hn.symm
    cases a with
    | none => rw [run_convert_bytes_nil w src e hs he 0 cap dst hd]; rfl
    | some ad =>
      have hl : (loadCells ad 0).run P w = .ok (([] : List Int).map (Value.int .u8)).toArray w := by
        have := run_loadCells_list (P := P) w ad [] (fun j v hj => by simp at hj)
        simpa using this
      rw [run_convert_bytes_string w src dst e _ 0 cap hs he hd, run_bytesToString w _ 0 cap [] hl]; rfl
  · exact run_convert_bytes_arg w src e hs he b off n cap bs hn (fun i hi => h i (by omega)) dst hd

end Go.Proofs.Ytiafhcgaikapcaa


/-
  Package crc's functions and the document's: what each call returns, in any world, for all integers that fit and all rows of bytes that can be read; the world stays as it is.
-/
namespace Go.Proofs.Ytiafhcgaikapcaa
open Go.ChangeShapes Go.WideShapes Go.ChangeAt Go.RowKit
set_option maxRecDepth 10000
set_option linter.unusedVariables false

theorem taken_any (r c : Nat) (hr : r < 4294967296) (hc : c < 256) (w : World) :
    Calls Try.prog 86 #[.int .u32 (r : Int), .int .u8 (c : Int)] w fun e w' => e = .returned (.int .u32 ((takeN r c : Nat) : Int)) ∧ w' = w := by
  go_enter Try.func86, Try.ntmps86
  go_wp2
  go_loop [0, 10] (fun v i => ∃ k : Nat, k ≤ 8 ∧ i = .int .i64 k ∧ v = .int .u32 ((stepsN k (r ^^^ c) : Nat) : Int)) (fun _ i => 8 - (intOf i).toNat)
  case atStart => exact ⟨0, by omega, rfl, by rw [u32_xor_nat r c hr (by omega)]; rfl⟩
  case round =>
    obtain ⟨k, hk, rfl, rfl⟩ := hrel
    have hs := stepsN_lt (xor_lt32 hr (show c < 4294967296 by omega)) k
    have Hn : Hid (stepsN (k + 1) (r ^^^ c) = stepN (stepsN k (r ^^^ c))) := rfl
    have H8 : Hid (takeN r c = stepsN 8 (r ^^^ c)) := rfl
    by_cases hlt : k < 8
    · generalize stepsN k (r ^^^ c) = s at *
      go_wp2
      go_round
      case rel => exact ⟨k + 1, by omega, by go_num, by rw [step_eq s hs, Hn.out]⟩
      case measure => simp [intOf]; omega
    · have hk8 : k = 8 := by omega
      subst hk8
      go_wp2
      go_ret
      exact ⟨ret_int (by rw [H8.out]), rfl⟩

theorem more_any (s : Nat) (hs : s < 4294967296) (a : Option Addr) (bs : List Int) (cap : Nat) (hb : Bytes8 bs) (hl : bs.length ≤ 9223372036854775807) (w : World) (h : Lies w a bs) :
    Calls Try.prog 74 #[.int .u32 (s : Int), .slice a bs.length cap] w fun e w' => e = .returned (.int .u32 ((moreN s bs : Nat) : Int)) ∧ w' = w := by
  obtain ⟨len, hlen⟩ : ∃ n, n = bs.length := ⟨_, rfl⟩
  rw [← hlen] at hl ⊢
  have Hlen := (show Hid (len = bs.length) from hlen)
  have H : Hid (Lies w a bs) := h
  have Hb : Hid (Bytes8 bs) := hb
  have Hm : Hid (moreN s bs = notN (regN (notN s) bs)) := rfl
  clear h hlen hb
  go_enter Try.func74, Try.ntmps74
  go_wp2
  go_loop [5, 12] (fun v i => ∃ k : Nat, k ≤ len ∧ i = .int .i64 k ∧ v = .int .u32 ((regN (notN s) (bs.take k) : Nat) : Int)) (fun _ i => len - (intOf i).toNat)
  case atStart => exact ⟨0, by omega, rfl, by rw [not_eq s hs]; rfl⟩
  case round =>
    obtain ⟨k, hk, rfl, rfl⟩ := hrel
    have hr := regN_lt _ (b8_take Hb.out k) (notN_lt hs)
    by_cases hlt : k < len
    · have h0 := b8_get Hb.out k
      have Hn := hide (regN_snoc (notN s) bs k (by rw [← Hlen.out]; exact hlt))
      obtain ⟨b, off, rfl, hc⟩ : ∃ b off, a = some ⟨b, off, none⟩ ∧ w.cell? ⟨b, off + k, none⟩ = some (.int .u8 (bs.getD k 0)) := by
        rcases H.out with h | ⟨b, off, h1, h2⟩
        · rw [Hlen.out, h] at hlt; simp at hlt
        · exact ⟨b, off, h1, h2 k (by rw [← Hlen.out]; exact hlt)⟩
      obtain ⟨c, hcc⟩ := Int.eq_ofNat_of_zero_le h0.1
      rw [hcc] at hc h0
      have Hcc := hide (hcc)
      clear hcc
      generalize regN (notN s) (bs.take k) = q at *
      go_wp2_with (go_at_call 86; refine (taken_any q c hr (by omega) _).mono ?_; rintro e w' ⟨rfl, rfl⟩)
      go_round
      case rel => exact ⟨k + 1, by omega, by go_num, by rw [Hn.out, Hcc.out]; rfl⟩
      case measure => simp [intOf]; omega
    · have Ht : Hid (bs.take k = bs) := List.take_of_length_le (by have := Hlen.out; omega)
      go_wp2
      go_ret
      exact ⟨ret_int (by rw [not_eq _ hr, Ht.out, Hm.out]), rfl⟩

theorem sum_any (a : Option Addr) (bs : List Int) (cap : Nat) (hb : Bytes8 bs) (hl : bs.length ≤ 9223372036854775807) (w : World) (h : Lies w a bs) :
    Calls Try.prog 60 #[.slice a bs.length cap] w fun e w' => e = .returned (.int .u32 ((moreN 0 bs : Nat) : Int)) ∧ w' = w := by
  go_enter Try.func60, Try.ntmps60
  go_wp2_with (go_at_call 74; refine (more_any 0 (by decide) a bs cap hb hl _ h).mono ?_; rintro e w' ⟨rfl, rfl⟩)
  go_ret
  exact ⟨rfl, rfl⟩


theorem sum_len (a : Option Addr) (bs : List Int) (n cap : Nat) (hn : bs.length = n) (hb : Bytes8 bs) (hl : n ≤ 9223372036854775807) (w : World) (h : Lies w a bs) :
    Calls Try.prog 60 #[.slice a n cap] w fun e w' => e = .returned (.int .u32 ((moreN 0 bs : Nat) : Int)) ∧ w' = w := by
  subst hn; exact sum_any a bs cap hb hl w h
theorem more_len (s : Nat) (hs : s < 4294967296) (a : Option Addr) (bs : List Int) (n cap : Nat) (hn : bs.length = n) (hb : Bytes8 bs) (hl : n ≤ 9223372036854775807) (w : World) (h : Lies w a bs) :
    Calls Try.prog 74 #[.int .u32 (s : Int), .slice a n cap] w fun e w' => e = .returned (.int .u32 ((moreN s bs : Nat) : Int)) ∧ w' = w := by
  subst hn; exact more_any s hs a bs cap hb hl w h


end Go.Proofs.Ytiafhcgaikapcaa


/-
  Lines and bytes: what word.Bytes and word.OfBytes return, and the document's; nothing that was there turns.
-/
namespace Go.Proofs.Ytiafhcgaikapcaa
open Go.ChangeShapes Go.WideShapes Go.ChangeAt Go.RowKit Go.Joins
set_option maxRecDepth 10000
set_option linter.unusedVariables false

theorem wfs_u64 {zs : List Int} (hw : ∀ z ∈ zs, (Lit.int .u64 z).wf = true) (j : Nat) : 0 ≤ zs.getD j 0 ∧ zs.getD j 0 ≤ 18446744073709551615 := by
  have := range_u64 hw j
  simpa using this

theorem bytes_any (zs : List Int) (hl : zs.length = 8) (hw : ∀ z ∈ zs, (Lit.int .u64 z).wf = true) (w : World) :
    Calls Try.prog 59 #[.agg (iv .u64 zs)] w fun e w' => e = .returned (.agg (iv .u8 (bytesOf zs))) ∧ Below w.heap.size w w' := by
  have hR := wfs_u64 hw
  go_enter Try.func59, Try.ntmps59
  go_wp2
  go_loopw [6] (fun c wr => ∃ k : Nat, k ≤ 8 ∧ c = .int .i64 k ∧ Below w.heap.size w wr ∧ wr.heap[w.heap.size]? = some (.cells (iv .u64 zs) 31 (0, 0)) ∧
      wr.heap[w.heap.size + 1]? = some (.cells (iv .u8 (partB zs 0)) 121 (0, 0)) ∧ wr.heap[w.heap.size + 1 + 1]? = some (.cells (iv .u8 (partB zs (k * 8))) 121 (0, 0)))
     (fun c _ => 8 - (intOf c).toNat)
  case atStart =>
    have hz : iv .u8 (partB zs 0) = iv .u8 (List.replicate 64 0) := by rw [partB_zero]
    refine ⟨0, by omega, rfl, below_alloc3 _ _ _ _, (heap3 _ _ _ _).1, ?_, ?_⟩
    · rw [hz]; exact (heap3 _ _ _ _).2.1
    · rw [Nat.zero_mul, hz]; exact (heap3 _ _ _ _).2.2
  case round =>
    obtain ⟨k, hk, rfl, hb, g0, g1, g2⟩ := hrel
    by_cases hlt : k < 8
    · go_wp2
      go_loopw [9] (fun c wi => ∃ j : Nat, j ≤ 8 ∧ c = .int .i64 j ∧ Below w.heap.size w wi ∧ wi.heap[w.heap.size]? = some (.cells (iv .u64 zs) 31 (0, 0)) ∧
        wi.heap[w.heap.size + 1]? = some (.cells (iv .u8 (partB zs 0)) 121 (0, 0)) ∧ wi.heap[w.heap.size + 1 + 1]? = some (.cells (iv .u8 (partB zs (k * 8 + j))) 121 (0, 0)))
        (fun c _ => 8 - (intOf c).toNat)
      case atStart => exact ⟨0, by omega, rfl, hb, g0, g1, g2⟩
      case round =>
        clear hb g0 g1 g2
        obtain ⟨j, hj, rfl, hb, g0, g1, g2⟩ := hrel
        by_cases hlj : j < 8
        · have c0 : wr.cell? ⟨w.heap.size, k, none⟩ = some (.int .u64 (zs.getD k 0)) := by rw [cell_of_block g0, iv_get _ _ _ (by omega)]
          have c1 : wr.cell? ⟨w.heap.size + 1 + 1, k * 8 + j, none⟩ = some (.int .u8 ((partB zs (k * 8 + j)).getD (k * 8 + j) 0)) := by rw [cell_of_block g2, iv_get _ _ _ (by rw [partB_len]; omega)]
          have c2 : wr.frozen? ⟨w.heap.size + 1 + 1, k * 8 + j, none⟩ = false := unfrozen_of_block g2 _
          obtain ⟨r0, r1⟩ := hR k
          have hbyte : byteAt zs (k * 8 + j) = zs.getD k 0 / 2 ^ (j * 8) % 256 := by
            unfold byteAt
            rw [show (k * 8 + j) / 8 = k by omega, show (k * 8 + j) % 8 = j by omega]
          have Hset : Hid ((iv .u8 (partB zs (k * 8 + j))).setIfInBounds (k * 8 + j) (.int .u8 (zs.getD k 0 / 2 ^ (j * 8) % 256)) = iv .u8 (partB zs (k * 8 + (j + 1)))) := by
            show _ = _
            rw [iv_set, ← hbyte, partB_set _ _ (by omega), Nat.add_assoc]
          clear hbyte hR hw
          generalize zs.getD k 0 = z at *
          generalize (partB zs (k * 8 + j)).getD (k * 8 + j) 0 = old at *
          have G0 := hide g0
          have G1 := hide g1
          have G2 := hide g2
          clear g0 g1 g2
          go_wp2
          go_roundw
          case rel =>
            refine ⟨j + 1, by omega, by go_num, hb.setCell (by simp; omega) _, ?_, ?_, ?_⟩
            · rw [heap_setCell_other _ _ _ _ (by simp; omega)]; exact unhide G0
            · rw [heap_setCell_other _ _ _ _ (by simp)]; exact unhide G1
            · rw [block_setCell (unhide G2), Hset.out]
          case measure => simp [intOf]; omega
        · have hj8 : j = 8 := by omega
          subst hj8
          go_wp2
          go_roundw
          case rel => exact ⟨k + 1, by omega, by go_num, hb, g0, g1, by rw [Nat.add_mul]; exact g2⟩
          case measure => simp [intOf]; omega
    · have h2 : wr.heap[w.heap.size + 1 + 1]? = some (.cells (iv .u8 (bytesOf zs)) 121 (0, 0)) := by
        rw [g2, show k * 8 = 64 by omega, partB_all]
      clear g2
      have s64 : (Try.prog.info? 121).map (·.size) = some 64 := by kernel_rfl
      go_wp2_with (first | (refine wpList_load_row rfl 121 _ rfl _ rfl _ _ _ _ h2 Try.underlying121 rfl (by rw [iv_size, bytesOf_len]; exact s64) ?_) | (refine wpList_store_row rfl 121 _ _ rfl _ (iv .u8 (bytesOf zs)) rfl rfl _ _ g1 (by rw [iv_size, bytesOf_len]; exact s64) (by rw [iv_size, iv_size, partB_len, bytesOf_len]) (iv_one _ _) ?_))
      exact bodyPost_ret (v := .agg (iv .u8 (bytesOf zs))) (results_cell_row Try.results59 _ _ (w.heap.size + 1) _ (iv .u8 (bytesOf zs)) (0, 0) _ rfl (setRow_heap _ _ _ _ _ _ g1) Try.underlying121 rfl (by rw [iv_size, bytesOf_len]; exact s64)) rfl ⟨rfl, below_row hb (by omega) _⟩

theorem built64 : Try.prog.built 121 [] = some (iv .u8 (List.replicate 64 0)) := by kernel_rfl
theorem size64 : (Try.prog.info? 121).map (·.size) = some 64 := by kernel_rfl

end Go.Proofs.Ytiafhcgaikapcaa


/-
  The document's Bytes: what it returns; nothing that was there turns.
-/
namespace Go.Proofs.Ytiafhcgaikapcaa
open Go.ChangeShapes Go.WideShapes Go.ChangeAt Go.RowKit Go.Joins
set_option maxRecDepth 10000
set_option linter.unusedVariables false

end Go.Proofs.Ytiafhcgaikapcaa


/-
  word.OfBytes: what it returns; nothing that was there turns.
-/
namespace Go.Proofs.Ytiafhcgaikapcaa
open Go.ChangeShapes Go.WideShapes Go.ChangeAt Go.RowKit Go.Joins
set_option maxRecDepth 10000
set_option linter.unusedVariables false

theorem wfs_u8 {zs : List Int} (hw : ∀ z ∈ zs, (Lit.int .u8 z).wf = true) (j : Nat) : 0 ≤ zs.getD j 0 ∧ zs.getD j 0 ≤ 255 := by
  have := range_u8 hw j
  simpa using this
theorem size8 : (Try.prog.info? 31).map (·.size) = some 8 := by kernel_rfl

end Go.Proofs.Ytiafhcgaikapcaa


/-
  crc.Seal, crc.Good and the document's: what each call returns for every line; nothing that was there turns.
-/
namespace Go.Proofs.Ytiafhcgaikapcaa
open Go.ChangeShapes Go.WideShapes Go.ChangeAt Go.RowKit Go.Joins
set_option maxRecDepth 10000
set_option linter.unusedVariables false

theorem sealOf_wf (zs : List Int) (hw : ∀ z ∈ zs, (Lit.int .u64 z).wf = true) : ∀ z ∈ sealOf zs, (Lit.int .u64 z).wf = true := fun z hz => by
  rcases List.mem_or_eq_of_mem_set hz with h | h
  · exact hw z h
  · have := sealW_bd zs
    rw [h]
    simp [Lit.wf, IntKind.min, IntKind.max, IntKind.signed, IntKind.bits]; omega
theorem seal_any (zs : List Int) (hl : zs.length = 8) (hw : ∀ z ∈ zs, (Lit.int .u64 z).wf = true) (w : World) :
    Calls Try.prog 38 #[.agg (iv .u64 zs)] w fun e w' => e = .returned (.agg (iv .u64 (sealOf zs))) ∧ Below w.heap.size w w' := by
  have s8 : (Try.prog.info? 31).map (·.size) = some (iv .u64 zs).size := by rw [iv_size, hl]; exact size8
  have s8b : (Try.prog.info? 31).map (·.size) = some (iv .u64 (sealOf zs)).size := by rw [iv_size, sealOf_len, hl]; exact size8
  have G0 : Hid (∀ B : Obj, ((w.alloc (.cells (iv .u64 zs) 31)).alloc B).heap[w.heap.size]? = some (.cells (iv .u64 zs) 31 (0, 0))) := fun B => by rw [Below.heap_alloc _ _ _ (by simp), heap_new]
  have G1 : Hid (∀ B : Obj, ((w.alloc (.cells (iv .u64 zs) 31)).alloc B).heap[w.heap.size + 1]? = some B) := fun B => by
    have := heap_new (w.alloc (.cells (iv .u64 zs) 31)) B
    simpa using this
  have C1 := hide (bytes_any zs hl hw)
  have hB : (iv .u8 (bytesOf zs)).size = 64 := by rw [iv_size, bytesOf_len]
  have hst : ∀ (W : World) (C : Array Value), C.size = 64 → Sem.run Try.prog (storeCells ⟨W.heap.size, 0, none⟩ (iv .u8 (bytesOf zs)).toList) (W.alloc (.cells C 121)) = .ok () (W.alloc (.cells (iv .u8 (bytesOf zs)) 121)) :=
    fun W C hC => run_store_new _ _ rfl C _ _ (by rw [hC, hB]) (iv_one _ _)
  have Hm := hide (moreN_lt (s := 0) (b8_take (bytesOf_b8 zs) 56) (by decide))
  have C2 : Hid (∀ W : World, Calls Try.prog 60 #[.slice (some ⟨W.heap.size, 0, none⟩) 56 64] (W.alloc (.cells (iv .u8 (bytesOf zs)) 121)) fun e w' => e = .returned (.int .u32 ((moreN 0 ((bytesOf zs).take 56) : Nat) : Int)) ∧ w' = W.alloc (.cells (iv .u8 (bytesOf zs)) 121)) := fun W => by
    refine sum_len _ ((bytesOf zs).take 56) 56 64 (by simp [bytesOf_len]) (b8_take (bytesOf_b8 zs) 56) (by decide) _ (lies_take (Or.inr ⟨_, _, rfl, fun i hi => ?_⟩) 56)
    rw [cell_of_block (heap_new W _), Nat.zero_add, iv_get _ _ _ hi]
  have Hset : Hid ((iv .u64 zs).setIfInBounds 7 (.int .u64 (4294967296 + ((moreN 0 ((bytesOf zs).take 56) : Nat) : Int))) = iv .u64 (sealOf zs)) := by show _ = _; rw [iv_set]; rfl
  go_enter Try.func38, Try.ntmps38
  go_wp2_with (refine wpList_load_row rfl 31 _ rfl _ rfl _ _ _ _ (unhide G0 _) Try.underlying31 rfl s8 ?_)
  refine (unhide C1 _).mono ?_
  rintro e w1 ⟨rfl, hb1⟩
  have hsz : w.heap.size + 1 + 1 ≤ w1.heap.size := by have := hb1.size; simpa using this
  have K0 := hide ((hb1.block w.heap.size (by simp; omega)).trans (unhide G0 _))
  have K1 := hide ((hb1.block (w.heap.size + 1) (by simp)).trans (unhide G1 _))
  have Hb := hide ((below_alloc2 w _ _).trans (hb1.mono (by simp; omega)))
  clear hb1
  go_wp2_with fail
  refine (unhide C2 _).mono ?_
  rintro e w2 ⟨rfl, rfl⟩
  have hm := unhide Hm
  have K2 := hide ((Below.heap_alloc w1 (.cells (iv .u8 (bytesOf zs)) 121) w.heap.size (by omega)).trans (unhide K0))
  have K3 := hide ((Below.heap_alloc w1 (.cells (iv .u8 (bytesOf zs)) 121) (w.heap.size + 1) (by omega)).trans (unhide K1))
  have Hb2 := hide ((unhide Hb).alloc (by omega) (.cells (iv .u8 (bytesOf zs)) 121))
  clear hst C2 K0 K1 Hb hB C1
  generalize w1.alloc (.cells (iv .u8 (bytesOf zs)) 121) = W2 at *
  generalize moreN 0 ((bytesOf zs).take 56) = m at *
  have c7 : W2.cell? ⟨w.heap.size, 7, none⟩ = some (.int .u64 (zs.getD 7 0)) := by rw [cell_of_block (unhide K2), iv_get _ _ _ (by omega)]
  have f7 : W2.frozen? ⟨w.heap.size, 7, none⟩ = false := unfrozen_of_block (unhide K2) _
  have K4 := hide ((block_setCell (i := 7) (unhide K2) (.int .u64 (4294967296 + (m : Int)))).trans (by rw [unhide Hset]))
  have K5 := hide ((heap_setCell_other W2 ⟨w.heap.size, 7, none⟩ (w.heap.size + 1) (.int .u64 (4294967296 + (m : Int))) (by simp)).trans (unhide K3))
  have Hb3 := hide ((unhide Hb2).setCell (p := ⟨w.heap.size, 7, none⟩) (by simp) (.int .u64 (4294967296 + (m : Int))))
  go_wp2_with (first | (refine wpList_load_row rfl 31 _ rfl _ rfl _ _ _ _ (unhide K4) Try.underlying31 rfl s8b ?_) | (refine wpList_store_row rfl 31 _ _ rfl _ (iv .u64 (sealOf zs)) rfl rfl _ _ (unhide K5) s8b (by rw [iv_size, sealOf_len, hl]; rfl) (iv_one _ _) ?_))
  exact bodyPost_ret (v := .agg (iv .u64 (sealOf zs))) (results_cell_row Try.results38 _ _ (w.heap.size + 1) _ (iv .u64 (sealOf zs)) (0, 0) _ rfl (setRow_heap _ _ _ _ _ _ (unhide K5)) Try.underlying31 rfl s8b) rfl ⟨rfl, below_row (unhide Hb3) (by omega) _⟩

end Go.Proofs.Ytiafhcgaikapcaa


/-
  '==' and '!=' on superblocks and lines.
-/
namespace Go.Proofs.Ytiafhcgaikapcaa
open Go.ChangeShapes Go.WideShapes Go.ChangeAt Go.RowKit Go.Joins
set_option maxRecDepth 10000

theorem super_guard : Try.prog.eqGuardType Try.prog.depth 39 = false := by kernel_rfl
theorem line_guard2 : Try.prog.eqGuardType Try.prog.depth 31 = false := by kernel_rfl
theorem super_fields : ((Try.prog.fieldsOf 39).toList.map fun f => (decide (f.name = "_"), f.type, f.offset)) = [(false, 3, 0), (false, 3, 1), (false, 3, 2), (false, 3, 3)] := by kernel_rfl
theorem equal_super (s t : List Int) (hs : s.length = 4) (ht : t.length = 4) (w : World) : (Op.equalIn 10000 39 (.agg (iv .i64 s)) (.agg (iv .i64 t))).run Try.prog w = .ok (decide (s = t)) w := by
  rw [run_equalIn_struct w 9999 39 _ _ (by kernel_rfl) (by kernel_rfl)]
  have hf := super_fields
  generalize (Try.prog.fieldsOf 39).toList = fs at hf
  have hl : fs.length = 4 := by have := congrArg List.length hf; simpa using this
  have h := run_eqFields_ints (P := Try.prog) w 9998 3 .i64 Try.underlying3 s t (by rw [hs, ht]) fs 0 (fun i f hi => by
    have h1 := congrArg (fun x => x[i]?) hf
    simp only [List.getElem?_map, hi, Option.map_some] at h1
    match i with
    | 0 | 1 | 2 | 3 => simp at h1; exact ⟨h1.1, h1.2.1, by omega⟩
    | n + 4 => simp at h1) (by rw [hl, hs])
  simpa using h
theorem equal_line (s t : List Int) (hs : s.length = 8) (ht : t.length = 8) (w : World) : (Op.equalIn 10000 31 (.agg (iv .u64 s)) (.agg (iv .u64 t))).run Try.prog w = .ok (decide (s = t)) w :=
  run_equalIn_ints w 9998 31 22 .u64 8 Try.underlying31 Try.underlying22 (by kernel_rfl) _ _ hs ht

end Go.Proofs.Ytiafhcgaikapcaa
