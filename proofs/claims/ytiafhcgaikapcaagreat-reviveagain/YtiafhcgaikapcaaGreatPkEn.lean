import Derived.Test.YtiafhcgaikapcaaGreatKMath
import Derived.Test.YtiafhcgaikapcaaGreatEqS
import Derived.Test.YtiafhcgaikapcaaGreatWCalls
import Derived.Test.YtiafhcgaikapcaaGreatOwn

/-
  Entries in plain mathematics: which may be, their words, what a word is read as, whether a capability names one, what is left when it ends. No program.
-/
namespace Go.Proofs.YtiafhcgaikapcaaGreat
set_option linter.unusedVariables false

/-- An entry: kind, version, line. -/
structure En where
  k : Int
  v : Int
  l : Int
theorem En.ext' {c d : En} (h1 : c.k = d.k) (h2 : c.v = d.v) (h3 : c.l = d.l) : c = d := by
  cases c; cases d; simp_all
instance : DecidableEq En := fun a b => decidable_of_iff (a.k = b.k ∧ a.v = b.v ∧ a.l = b.l) (by
  cases a; cases b; simp)
def ze : En := ⟨0, 0, 0⟩
/-- Its cells. -/
def ev (c : En) : Array Value := #[.int .i64 c.k, .int .i64 c.v, .int .i64 c.l]
theorem ev_size (c : En) : (ev c).size = 3 := rfl
theorem ev_one (c : En) : (ev c).all (·.oneCell') = true := by simp [ev, Value.oneCell']

def mayN (c : En) : Bool := decide (0 ≤ c.k ∧ c.k ≤ 4 ∧ 0 ≤ c.v ∧ c.v ≤ 16777215 ∧ 0 ≤ c.l ∧ c.l < 1024 ∧ (c.k = 0 → c.l = 0))
theorem mayN_iff (c : En) : mayN c = true ↔ 0 ≤ c.k ∧ c.k ≤ 4 ∧ 0 ≤ c.v ∧ c.v ≤ 16777215 ∧ 0 ≤ c.l ∧ c.l < 1024 ∧ (c.k = 0 → c.l = 0) := by
  unfold mayN; rw [decide_eq_true_iff]
def wordN (c : En) : Int := c.k + c.v * 16 + c.l * 268435456
def wnV (c : En) : Int := if mayN c then wordN c else 0
def wnE (c : En) : Int := if mayN c then 0 else 1
def ofN (w : Int) : En := ⟨fieldI w 0 4, fieldI w 4 24, fieldI w 28 16⟩
def isN (w : Int) : Bool := mayN (ofN w) && decide (wordN (ofN w) = w)
def onV (w : Int) : En := if isN w then ofN w else ze

theorem n0 (w : Int) (h : 0 ≤ w) : fieldI w 0 4 = w % 16 := f0 w h
theorem n1 (w : Int) (h : 0 ≤ w) : fieldI w 4 24 = w / 16 % 16777216 := by unfold fieldI fieldN; simp; omega
theorem n2 (w : Int) (h : 0 ≤ w) : fieldI w 28 16 = w / 268435456 % 65536 := by unfold fieldI fieldN; simp; omega
theorem wordN_bd (c : En) (hm : mayN c = true) : 0 ≤ wordN c ∧ wordN c < 17592186044416 := by
  have h := (mayN_iff c).1 hm
  unfold wordN; omega
/-- An entry that may be is read from its word as it was. -/
theorem ofN_word (c : En) (hm : mayN c = true) : ofN (wordN c) = c := by
  have h := (mayN_iff c).1 hm
  have hb := wordN_bd c hm
  have e : wordN c = c.k + c.v * 16 + c.l * 268435456 := rfl
  unfold ofN
  rw [n0 _ (by omega), n1 _ (by omega), n2 _ (by omega)]
  apply En.ext'
  · show wordN c % 16 = c.k; omega
  · show wordN c / 16 % 16777216 = c.v; omega
  · show wordN c / 268435456 % 65536 = c.l; omega
theorem isN_word (c : En) (hm : mayN c = true) : isN (wordN c) = true := by unfold isN; rw [ofN_word c hm, hm]; simp
theorem onV_word (c : En) (hm : mayN c = true) : onV (wordN c) = c := by unfold onV; rw [if_pos (isN_word c hm), ofN_word c hm]
theorem wnV_may (c : En) (hm : mayN c = true) : wnV c = wordN c := by simp [wnV, hm]
theorem wnE_may (c : En) (hm : mayN c = true) : wnE c = 0 := by simp [wnE, hm]
theorem wnV_not (c : En) (hm : mayN c = false) : wnV c = 0 := by simp [wnV, hm]
theorem wnE_not (c : En) (hm : mayN c = false) : wnE c = 1 := by simp [wnE, hm]
theorem onV_is (w : Int) (h : isN w = true) : onV w = ofN w := by simp [onV, h]
theorem onV_not (w : Int) (h : isN w = false) : onV w = ze := by simp [onV, h]
theorem isN_may (w : Int) (h : isN w = true) : mayN (ofN w) = true ∧ wordN (ofN w) = w := by
  unfold isN at h; simpa using h
theorem wordN_inj (c d : En) (hm : mayN c = true) (hn : mayN d = true) (h : wordN c = wordN d) : c = d := by
  rw [← ofN_word c hm, h, ofN_word d hn]
theorem ofN_bd (w : Int) (h0 : 0 ≤ w) : 0 ≤ (ofN w).k ∧ (ofN w).k ≤ 15 ∧ 0 ≤ (ofN w).v ∧ (ofN w).v ≤ 16777215 ∧ 0 ≤ (ofN w).l ∧ (ofN w).l ≤ 65535 := by
  unfold ofN
  rw [n0 _ (by omega), n1 _ (by omega), n2 _ (by omega)]
  show 0 ≤ w % 16 ∧ w % 16 ≤ 15 ∧ 0 ≤ w / 16 % 16777216 ∧ w / 16 % 16777216 ≤ 16777215 ∧ 0 ≤ w / 268435456 % 65536 ∧ w / 268435456 % 65536 ≤ 65535
  omega

/-! ### the calls -/
/-- What Names says. -/
def namE (x : En) (i c : Int) : Int :=
  if isC c = true ∧ (ofC c).k ≠ 5 ∧ (ofC c).k ≠ 6 then
    (if (ofC c).i = i then (if (ofC c).v = x.v then (if x.k = 0 then 30 else if (ofC c).k = x.k then 0 else 31) else 33) else 30)
  else 31
/-- The version behind an end. -/
def nextI (v : Int) : Int := if v = 16777215 then 16777215 else v + 1
def endV (x : En) : En := if x.k = 0 then ze else ⟨0, nextI x.v, 0⟩
def endE (x : En) : Int := if x.k = 0 then 30 else 0
def opB (x : En) : Bool := decide (x.k = 0 ∧ x.v < 16777215)

end Go.Proofs.YtiafhcgaikapcaaGreat


/-
  Rows of entries in plain mathematics: as rows of integers, three for each. No program.
-/
namespace Go.Proofs.YtiafhcgaikapcaaGreat
open Go.RowKit
set_option linter.unusedVariables false

/-! ### rows of entries -/
/-- The entry j of a row. -/
def enAt (zs : List Int) (j : Nat) : En := ⟨zs.getD (3 * j) 0, zs.getD (3 * j + 1) 0, zs.getD (3 * j + 2) 0⟩
def fl3 (f : Nat → En) (m : Nat) : Int := if m % 3 = 0 then (f (m / 3)).k else if m % 3 = 1 then (f (m / 3)).v else (f (m / 3)).l
/-- n entries, one behind the other. -/
def rowE (n : Nat) (f : Nat → En) : List Int := (List.range (3 * n)).map (fl3 f)
theorem rowE_len (n : Nat) (f : Nat → En) : (rowE n f).length = 3 * n := by simp [rowE]
theorem rowE_get (n : Nat) (f : Nat → En) (m : Nat) (h : m < 3 * n) : (rowE n f).getD m 0 = fl3 f m := by
  unfold rowE; rw [List.getD_eq_getElem?_getD, List.getElem?_map, List.getElem?_range h]; rfl
theorem rowE_at (n : Nat) (f : Nat → En) (j : Nat) (h : j < n) : enAt (rowE n f) j = f j := by
  unfold enAt
  rw [rowE_get _ _ _ (by omega), rowE_get _ _ _ (by omega), rowE_get _ _ _ (by omega)]
  unfold fl3
  rw [if_pos (by omega), if_neg (by omega), if_pos (by omega), if_neg (by omega), if_neg (by omega), show 3 * j / 3 = j by omega, show (3 * j + 1) / 3 = j by omega, show (3 * j + 2) / 3 = j by omega]
theorem rowE_ext {n : Nat} {f g : Nat → En} (h : ∀ i, i < n → f i = g i) : rowE n f = rowE n g := by
  unfold rowE
  apply List.map_congr_left
  intro m hm
  rw [List.mem_range] at hm
  unfold fl3
  rw [h (m / 3) (by omega)]
theorem list_ext0 {xs ys : List Int} {n : Nat} (hx : xs.length = n) (hy : ys.length = n) (h : ∀ m, m < n → xs.getD m 0 = ys.getD m 0) : xs = ys := by
  apply List.ext_getElem?
  intro i
  by_cases hi : i < n
  · have := h i hi
    rw [List.getD_eq_getElem?_getD, List.getD_eq_getElem?_getD, List.getElem?_eq_getElem (by omega), List.getElem?_eq_getElem (by omega)] at this
    rw [List.getElem?_eq_getElem (by omega), List.getElem?_eq_getElem (by omega)]
    simpa using this
  · rw [List.getElem?_eq_none (by omega), List.getElem?_eq_none (by omega)]
theorem fl3_en (zs : List Int) (m : Nat) : fl3 (enAt zs) m = zs.getD m 0 := by
  unfold fl3 enAt
  by_cases h0 : m % 3 = 0
  · rw [if_pos h0, show 3 * (m / 3) = m by omega]
  · rw [if_neg h0]
    by_cases h1 : m % 3 = 1
    · rw [if_pos h1, show 3 * (m / 3) + 1 = m by omega]
    · rw [if_neg h1, show 3 * (m / 3) + 2 = m by omega]
theorem row_en (zs : List Int) (n : Nat) (hl : zs.length = 3 * n) : rowE n (enAt zs) = zs :=
  list_ext0 (rowE_len n _) hl fun m hm => by rw [rowE_get _ _ _ hm, fl3_en]
theorem row_eq_iff (xs ys : List Int) (n : Nat) (hx : xs.length = 3 * n) (hy : ys.length = 3 * n) : xs = ys ↔ ∀ i, i < n → enAt xs i = enAt ys i := by
  constructor
  · rintro rfl i _; rfl
  · intro h; rw [← row_en xs n hx, ← row_en ys n hy]; exact rowE_ext h
def put3 (zs : List Int) (j : Nat) (c : En) : List Int := ((zs.set (3 * j) c.k).set (3 * j + 1) c.v).set (3 * j + 2) c.l
theorem put3_len (zs : List Int) (j : Nat) (c : En) : (put3 zs j c).length = zs.length := by simp [put3]
theorem getD_set (zs : List Int) (i m : Nat) (v : Int) (h : i < zs.length) : (zs.set i v).getD m 0 = if m = i then v else zs.getD m 0 := by
  rw [List.getD_eq_getElem?_getD, List.getElem?_set]
  by_cases hm : m = i
  · rw [if_pos hm.symm, if_pos (by omega), if_pos hm]; rfl
  · rw [if_neg (fun h => hm h.symm), if_neg hm, List.getD_eq_getElem?_getD]
theorem put3_get (zs : List Int) (j : Nat) (c : En) (h : 3 * j + 2 < zs.length) (m : Nat) : (put3 zs j c).getD m 0 = if m / 3 = j then fl3 (fun _ => c) m else zs.getD m 0 := by
  unfold put3
  rw [getD_set _ _ _ _ (by simp; omega), getD_set _ _ _ _ (by simp; omega), getD_set _ _ _ _ (by omega)]
  unfold fl3
  by_cases h3 : m / 3 = j
  · rw [if_pos h3]
    by_cases a : m = 3 * j + 2
    · rw [if_pos a, if_neg (by omega), if_neg (by omega)]
    · rw [if_neg a]
      by_cases b : m = 3 * j + 1
      · rw [if_pos b, if_neg (by omega), if_pos (by omega)]
      · rw [if_neg b, if_pos (by omega), if_pos (by omega)]
  · rw [if_neg h3, if_neg (by omega), if_neg (by omega), if_neg (by omega)]
theorem put3_row (n : Nat) (f : Nat → En) (j : Nat) (c : En) (h : j < n) : put3 (rowE n f) j c = rowE n (fun i => if i = j then c else f i) :=
  list_ext0 (n := 3 * n) (by rw [put3_len, rowE_len]) (rowE_len n _) fun m hm => by
    rw [put3_get _ _ _ (by rw [rowE_len]; omega), rowE_get _ _ _ hm, rowE_get _ _ _ hm]
    unfold fl3
    by_cases hj : m / 3 = j
    · simp only [if_pos hj]
    · simp only [if_neg hj]
theorem put3_at (zs : List Int) (n j : Nat) (c : En) (hl : zs.length = 3 * n) (h : j < n) (i : Nat) (hi : i < n) : enAt (put3 zs j c) i = if i = j then c else enAt zs i := by
  have : put3 zs j c = rowE n (fun i => if i = j then c else enAt zs i) := by rw [← put3_row n _ j c h, row_en zs n hl]
  rw [this, rowE_at n _ i hi]
/-- The first j entries, noughts behind. -/
def upTo (f : Nat → En) (j : Nat) : Nat → En := fun i => if i < j then f i else ze
def zrow (n : Nat) : List Int := rowE n fun _ => ze
theorem zrow_len (n : Nat) : (zrow n).length = 3 * n := rowE_len _ _
theorem zrow_zero (n : Nat) : zrow n = List.replicate (3 * n) 0 := list_ext0 (rowE_len n _) (by simp) fun m hm => by
  unfold zrow
  rw [rowE_get _ _ _ hm]
  unfold fl3 ze
  simp [List.getD_eq_getElem?_getD, hm]
theorem upTo_zero (n : Nat) (f : Nat → En) : rowE n (upTo f 0) = zrow n := rowE_ext fun i _ => by unfold upTo; rw [if_neg (by omega)]
theorem upTo_all (n : Nat) (f : Nat → En) : rowE n (upTo f n) = rowE n f := rowE_ext fun i hi => by unfold upTo; rw [if_pos hi]
theorem put3_upTo (n : Nat) (f : Nat → En) (j : Nat) (h : j < n) : put3 (rowE n (upTo f j)) j (f j) = rowE n (upTo f (j + 1)) := by
  rw [put3_row _ _ _ _ h]
  apply rowE_ext
  intro i _
  unfold upTo
  by_cases a : i = j
  · rw [if_pos a, if_pos (by omega), a]
  · rw [if_neg a]
    by_cases b : i < j
    · rw [if_pos b, if_pos (by omega)]
    · rw [if_neg b, if_neg (by omega)]

end Go.Proofs.YtiafhcgaikapcaaGreat


/-
  entry's functions: what each call returns, for whatever entry, word, number; nothing that was there turns.
-/
namespace Go.Proofs.YtiafhcgaikapcaaGreat
open Go.ChangeShapes Go.WideShapes Go.ChangeAt Go.RowKit Go.Joins
set_option maxRecDepth 10000
set_option linter.unusedVariables false
set_option linter.unusedSimpArgs false

theorem zero3 : (#[.int .i64 0, .int .i64 0, .int .i64 0] : Array Value) = ev ze := rfl
theorem build3 : Tryz.prog.built 41 [] = some (ev ze) := by kernel_rfl
theorem size3 : (Tryz.prog.info? 41).map (·.size) = some 3 := by kernel_rfl
theorem ev_new (c : En) (T : TypeId) : ∀ (W : World) (C : Array Value), C.size = 3 → Sem.run Tryz.prog (storeCells ⟨W.heap.size, 0, none⟩ (ev c).toList) (W.alloc (.cells C T)) = .ok () (W.alloc (.cells (ev c) T)) :=
  fun W C hC => run_store_new _ _ rfl C _ _ (by rw [hC, ev_size]) (ev_one _)

/-! ### '==' on entries -/
theorem en_guard : Tryz.prog.eqGuardType Tryz.prog.depth 41 = false := by kernel_rfl
theorem en_fields : ((Tryz.prog.fieldsOf 41).toList.map fun f => (decide (f.name = "_"), f.type, f.offset)) = [(false, 3, 0), (false, 3, 1), (false, 3, 2)] := by kernel_rfl
theorem en_eq (r t : En) : (r.k == t.k && (r.v == t.v && (r.l == t.l && true))) = decide (r = t) := by
  by_cases h : r = t
  · subst h; simp
  · rw [decide_eq_false h]
    rw [Bool.eq_false_iff]
    intro hc
    simp only [Bool.and_eq_true, beq_iff_eq] at hc
    exact h (En.ext' hc.1 hc.2.1 hc.2.2.1)
theorem equal_en (r t : En) (w : World) : (Op.equalIn 10000 41 (.agg (ev r)) (.agg (ev t))).run Tryz.prog w = .ok (decide (r = t)) w := by
  rw [run_equalIn_struct w 9999 41 _ _ (by kernel_rfl) (by kernel_rfl)]
  have hf := en_fields
  generalize (Tryz.prog.fieldsOf 41).toList = fs at hf
  have hl : fs.length = 3 := by have := congrArg List.length hf; simpa using this
  match fs, hl, hf with
  | [f0, f1, f2], _, hf =>
    simp only [List.map_cons, List.map_nil, List.cons.injEq, Prod.mk.injEq, decide_eq_false_iff_not, and_true] at hf
    obtain ⟨⟨a0, b0, c0⟩, ⟨a1, b1, c1⟩, ⟨a2, b2, c2⟩⟩ := hf
    rw [← en_eq]
    refine run_eqField w 9998 _ _ f0 _ .i64 r.k t.k a0 (by rw [b0]; exact Tryz.underlying3) (by rw [c0]; rfl) (by rw [c0]; rfl) _ ?_
    refine run_eqField w 9998 _ _ f1 _ .i64 r.v t.v a1 (by rw [b1]; exact Tryz.underlying3) (by rw [c1]; rfl) (by rw [c1]; rfl) _ ?_
    refine run_eqField w 9998 _ _ f2 _ .i64 r.l t.l a2 (by rw [b2]; exact Tryz.underlying3) (by rw [c2]; rfl) (by rw [c2]; rfl) _ ?_
    simp [Op.eqFields]

/-! ### mayBe -/
theorem mayBe3 (k v l : Int) (w : World) : Calls Tryz.prog 217 #[.agg #[.int .i64 k, .int .i64 v, .int .i64 l]] w fun e w' => e = .returned (.bool (mayN ⟨k, v, l⟩)) ∧ Below w.heap.size w w' := by
  go_enter Tryz.func217, Tryz.ntmps217
  go_wp2
  all_goals go_ret
  all_goals refine ⟨ret_bool ?_, (Below.refl _ _).alloc (Nat.le_refl _) _⟩
  all_goals try simp only [beq_iff_eq, beq_eq_false_iff_ne, bne_iff_ne, bne_eq_false_iff_eq, ne_eq] at *
  all_goals (rw [Bool.eq_iff_iff]; simp only [mayN_iff, beq_iff_eq, decide_eq_true_iff, Bool.false_eq_true, false_iff]; omega)

/-! ### Word's closure: a part is laid behind what there is -/
theorem own_put {W w : World} {X A B : Nat} {bx : Obj} {T U : TypeId} {c d c' d' : Value} (hA : W.heap.size ≤ A) (hB : W.heap.size ≤ B) (hAB : A ≠ B) (hXA : X ≠ A) (hXB : X ≠ B) (h : Own W w [(X, bx), (A, .cells #[c] T (0, 0)), (B, .cells #[d] U (0, 0))]) :
    Own W ((w.setCell ⟨A, 0, none⟩ c').setCell ⟨B, 0, none⟩ d') [(X, bx), (A, .cells #[c'] T (0, 0)), (B, .cells #[d'] U (0, 0))] := by
  have eX := h.at X bx (by simp)
  have eA := h.at A (.cells #[c] T (0, 0)) (by simp)
  have eB := h.at B (.cells #[d] U (0, 0)) (by simp)
  refine ⟨(h.1.setCell (p := ⟨A, 0, none⟩) hA _).setCell (p := ⟨B, 0, none⟩) hB _, ?_⟩
  intro p hp
  simp only [List.mem_cons, List.not_mem_nil, or_false] at hp
  rcases hp with rfl | rfl | rfl
  · rw [Below.heap_setCell _ _ _ _ hXB, Below.heap_setCell _ _ _ _ hXA]; exact eX
  · rw [Below.heap_setCell _ _ _ _ hAB, block_setCell eA]; rfl
  · rw [block_setCell ((Below.heap_setCell _ _ _ _ (Ne.symm hAB)).trans eB)]; rfl
theorem put4 {W w : World} {X A B : Nat} {bx : Obj} {x p : Int} (h0 : 0 ≤ x) (h1 : x < 16) (p0 : 0 ≤ p) (p1 : p ≤ 16777215) (hA : W.heap.size ≤ A) (hB : W.heap.size ≤ B) (hAB : A ≠ B) (hXA : X ≠ A) (hXB : X ≠ B)
    (h : Own W w [(X, bx), (A, .cells #[.int .u64 x] 52 (0, 0)), (B, .cells #[.int .i64 4] 3 (0, 0))]) :
    Calls Tryz.prog 218 (#[.int .i64 p, .int .i64 24] ++ #[.pointer (some ⟨A, 0, none⟩), .pointer (some ⟨B, 0, none⟩)]) w fun e w' => e = .returned (.tuple #[]) ∧
      Own W w' [(X, bx), (A, .cells #[.int .u64 (x + p * 16)] 52 (0, 0)), (B, .cells #[.int .i64 28] 3 (0, 0))] := by
  have eA := h.at A (.cells #[.int .u64 x] 52 (0, 0)) (by simp)
  have eB := h.at B (.cells #[.int .i64 4] 3 (0, 0)) (by simp)
  have cA : w.cell? ⟨A, 0, none⟩ = some (.int .u64 x) := by rw [cell_of_block eA]; rfl
  have cB : w.cell? ⟨B, 0, none⟩ = some (.int .i64 4) := by rw [cell_of_block eB]; rfl
  have fA : w.frozen? ⟨A, 0, none⟩ = false := unfrozen_of_block eA _
  have fB : w.frozen? ⟨B, 0, none⟩ = false := unfrozen_of_block eB _
  have H := hide (own_put (c' := .int .u64 (x + p * 16)) (d' := .int .i64 28) hA hB hAB hXA hXB h)
  have hor := or_top x p 16 4 rfl h0 h1 p0 (by omega) (by omega)
  have R := hide hor
  clear h eA eB hor
  have hBA : B ≠ A := Ne.symm hAB
  go_enter Tryz.func218, Tryz.ntmps218
  go_wp2_with fail
  go_end0
  rw [unhide R]
  exact ⟨rfl, unhide H⟩
theorem put28 {W w : World} {X A B : Nat} {bx : Obj} {x p : Int} (h0 : 0 ≤ x) (h1 : x < 268435456) (p0 : 0 ≤ p) (p1 : p ≤ 16777215) (hA : W.heap.size ≤ A) (hB : W.heap.size ≤ B) (hAB : A ≠ B) (hXA : X ≠ A) (hXB : X ≠ B)
    (h : Own W w [(X, bx), (A, .cells #[.int .u64 x] 52 (0, 0)), (B, .cells #[.int .i64 28] 3 (0, 0))]) :
    Calls Tryz.prog 218 (#[.int .i64 p, .int .i64 16] ++ #[.pointer (some ⟨A, 0, none⟩), .pointer (some ⟨B, 0, none⟩)]) w fun e w' => e = .returned (.tuple #[]) ∧
      Own W w' [(X, bx), (A, .cells #[.int .u64 (x + p * 268435456)] 52 (0, 0)), (B, .cells #[.int .i64 44] 3 (0, 0))] := by
  have eA := h.at A (.cells #[.int .u64 x] 52 (0, 0)) (by simp)
  have eB := h.at B (.cells #[.int .i64 28] 3 (0, 0)) (by simp)
  have cA : w.cell? ⟨A, 0, none⟩ = some (.int .u64 x) := by rw [cell_of_block eA]; rfl
  have cB : w.cell? ⟨B, 0, none⟩ = some (.int .i64 28) := by rw [cell_of_block eB]; rfl
  have fA : w.frozen? ⟨A, 0, none⟩ = false := unfrozen_of_block eA _
  have fB : w.frozen? ⟨B, 0, none⟩ = false := unfrozen_of_block eB _
  have H := hide (own_put (c' := .int .u64 (x + p * 268435456)) (d' := .int .i64 44) hA hB hAB hXA hXB h)
  have hor := or_top x p 268435456 28 rfl h0 h1 p0 (by omega) (by omega)
  have R := hide hor
  clear h eA eB hor
  have hBA : B ≠ A := Ne.symm hAB
  go_enter Tryz.func218, Tryz.ntmps218
  go_wp2_with fail
  go_end0
  rw [unhide R]
  exact ⟨rfl, unhide H⟩
theorem put0 {W w : World} {X A B : Nat} {bx : Obj} {p : Int} (p0 : 0 ≤ p) (p1 : p ≤ 16777215) (hA : W.heap.size ≤ A) (hB : W.heap.size ≤ B) (hAB : A ≠ B) (hXA : X ≠ A) (hXB : X ≠ B)
    (h : Own W w [(X, bx), (A, .cells #[.int .u64 0] 52 (0, 0)), (B, .cells #[.int .i64 0] 3 (0, 0))]) :
    Calls Tryz.prog 218 (#[.int .i64 p, .int .i64 4] ++ #[.pointer (some ⟨A, 0, none⟩), .pointer (some ⟨B, 0, none⟩)]) w fun e w' => e = .returned (.tuple #[]) ∧
      Own W w' [(X, bx), (A, .cells #[.int .u64 p] 52 (0, 0)), (B, .cells #[.int .i64 4] 3 (0, 0))] := by
  have eA := h.at A (.cells #[.int .u64 0] 52 (0, 0)) (by simp)
  have eB := h.at B (.cells #[.int .i64 0] 3 (0, 0)) (by simp)
  have cA : w.cell? ⟨A, 0, none⟩ = some (.int .u64 0) := by rw [cell_of_block eA]; rfl
  have cB : w.cell? ⟨B, 0, none⟩ = some (.int .i64 0) := by rw [cell_of_block eB]; rfl
  have fA : w.frozen? ⟨A, 0, none⟩ = false := unfrozen_of_block eA _
  have fB : w.frozen? ⟨B, 0, none⟩ = false := unfrozen_of_block eB _
  have H := hide (own_put (c' := .int .u64 p) (d' := .int .i64 4) hA hB hAB hXA hXB h)
  have hor := or_top 0 p 1 0 rfl (by omega) (by omega) p0 (by omega) (by omega)
  rw [Int.mul_one, Int.zero_add] at hor
  have R := hide hor
  clear h eA eB hor
  have hBA : B ≠ A := Ne.symm hAB
  go_enter Tryz.func218, Tryz.ntmps218
  go_wp2_with fail
  go_end0
  rw [unhide R]
  exact ⟨rfl, unhide H⟩

/-! ### Word -/
theorem heap3own (W w : World) (X : Nat) (bx : Obj) (h : Own W w [(X, bx)]) (a b : Obj) : Own W ((w.alloc a).alloc b) [(X, bx), (w.heap.size, a), (w.heap.size + 1, b)] := by
  have h2 := (h.alloc a).alloc b
  refine h2.less ?_
  intro p hp
  simp only [List.mem_cons, List.not_mem_nil, or_false] at hp ⊢
  rcases hp with rfl | rfl | rfl
  · exact Or.inr (Or.inr rfl)
  · exact Or.inr (Or.inl rfl)
  · exact Or.inl (by simp)
theorem eword3 (k v l : Int) (w : World) : Calls Tryz.prog 211 #[.agg #[.int .i64 k, .int .i64 v, .int .i64 l]] w fun e w' => e = .returned (.tuple #[.int .u64 (wnV ⟨k, v, l⟩), .int .i64 (wnE ⟨k, v, l⟩)]) ∧ Below w.heap.size w w' := by
  have M := hide (mayBe3 k v l)
  cases hm : mayN ⟨k, v, l⟩ with
  | false =>
    rw [wnV_not _ hm, wnE_not _ hm]
    rw [hm] at M
    clear hm
    go_enter Tryz.func211, Tryz.ntmps211
    go_wp2_with fail
    refine (unhide M _).mono ?_
    rintro e w1 ⟨rfl, hb⟩
    go_wp2_with fail
    go_ret2
    exact ⟨rfl, ((Below.refl _ _).alloc (Nat.le_refl _) _).trans (hb.mono (by simp))⟩
  | true =>
    obtain ⟨h1, h2, h3, h4, h5, h6, -⟩ : 0 ≤ k ∧ k ≤ 4 ∧ 0 ≤ v ∧ v ≤ 16777215 ∧ 0 ≤ l ∧ l < 1024 ∧ (k = 0 → l = 0) := (mayN_iff ⟨k, v, l⟩).1 hm
    rw [wnV_may _ hm, wnE_may _ hm]
    rw [hm] at M
    clear hm
    have O := hide ((Own.start w).alloc (.cells #[.int .i64 k, .int .i64 v, .int .i64 l] 41))
    go_enter Tryz.func211, Tryz.ntmps211
    go_wp2_with fail
    refine (unhide M _).mono ?_
    rintro e w1 ⟨rfl, hb⟩
    have U1 := hide ((unhide O).call hb)
    have O1 := hide (heap3own _ _ _ _ (unhide U1) (.cells #[.int .u64 0] 52) (.cells #[.int .i64 0] 3))
    have hs : w.heap.size < w1.heap.size := by have := hb.size; simp at this; omega
    have c0 : w1.cell? ⟨w.heap.size, 0, none⟩ = some (.int .i64 k) := by rw [cell_of_block ((unhide U1).at w.heap.size (.cells #[.int .i64 k, .int .i64 v, .int .i64 l] 41) (by simp))]; rfl
    clear hb O M U1
    go_wp2_with fail
    refine (put0 h1 (by omega) (by omega) (by omega) (by omega) (by omega) (by omega) (unhide O1)).mono ?_
    rintro e w2 ⟨rfl, o2⟩
    have O2 := hide o2
    have c1 : w2.cell? ⟨w.heap.size, 1, none⟩ = some (.int .i64 v) := by rw [cell_of_block (o2.at w.heap.size (.cells #[.int .i64 k, .int .i64 v, .int .i64 l] 41) (by simp))]; rfl
    clear o2 O1 c0
    go_wp2_with fail
    refine (put4 h1 (by omega) h3 (by omega) (by omega) (by omega) (by omega) (by omega) (by omega) (unhide O2)).mono ?_
    rintro e w3 ⟨rfl, o3⟩
    have O3 := hide o3
    have c2 : w3.cell? ⟨w.heap.size, 2, none⟩ = some (.int .i64 l) := by rw [cell_of_block (o3.at w.heap.size (.cells #[.int .i64 k, .int .i64 v, .int .i64 l] 41) (by simp))]; rfl
    clear o3 O2 c1
    go_wp2_with fail
    refine (put28 (by omega) (by omega) h5 (by omega) (by omega) (by omega) (by omega) (by omega) (by omega) (unhide O3)).mono ?_
    rintro e w4 ⟨rfl, o4⟩
    have Hb := hide o4.below
    have c3 : w4.cell? ⟨w1.heap.size, 0, none⟩ = some (.int .u64 (wordN ⟨k, v, l⟩)) := by rw [cell_of_block (o4.at w1.heap.size (.cells #[.int .u64 (k + v * 16 + l * 268435456)] 52 (0, 0)) (by simp))]; rfl
    clear o4 O3 c2
    go_wp2_with fail
    go_ret2
    exact ⟨rfl, unhide Hb⟩
theorem eword_any (c : En) (w : World) : Calls Tryz.prog 211 #[.agg (ev c)] w fun e w' => e = .returned (.tuple #[.int .u64 (wnV c), .int .i64 (wnE c)]) ∧ Below w.heap.size w w' := eword3 c.k c.v c.l w

/-! ### Of: its closure hands out what a word has, part by part -/
theorem part_any {w : World} {A B : Nat} {x a n : Int} (h0 : 0 ≤ x) (h1 : x ≤ 18446744073709551615) (hF : isF a n = true) (ha : 0 ≤ a ∧ a ≤ 63) (hn : 1 ≤ n ∧ n ≤ 24) (hr : 0 ≤ fieldI x a n ∧ fieldI x a n ≤ 16777215)
    (eA : w.heap[A]? = some (.cells #[.int .u64 x] 52 (0, 0))) (eB : w.heap[B]? = some (.cells #[.int .i64 a] 3 (0, 0))) :
    Calls Tryz.prog 222 (#[.int .i64 n] ++ #[.pointer (some ⟨A, 0, none⟩), .pointer (some ⟨B, 0, none⟩)]) w fun e w' => e = .returned (.int .i64 (fieldI x a n)) ∧ w' = w.setCell ⟨B, 0, none⟩ (.int .i64 (a + n)) := by
  have cA : w.cell? ⟨A, 0, none⟩ = some (.int .u64 x) := by rw [cell_of_block eA]; rfl
  have cB : w.cell? ⟨B, 0, none⟩ = some (.int .i64 a) := by rw [cell_of_block eB]; rfl
  have fB : w.frozen? ⟨B, 0, none⟩ = false := unfrozen_of_block eB _
  have F0 := hide (field_yes x a n h0 h1 (wf_i64 (by omega) (by omega)) (wf_i64 (by omega) (by omega)) hF)
  clear eA eB hF
  generalize fieldI x a n = R at *
  go_enter Tryz.func222, Tryz.ntmps222
  go_wp2_with fail
  refine (unhide F0 _).mono ?_
  rintro e w1 ⟨rfl, rfl⟩
  go_wp2_with fail
  go_ret
  exact ⟨rfl, rfl⟩
theorem parts_any (x : Int) (w : World) : Calls Tryz.prog 216 #[.int .u64 x] w fun e w' => e = .returned (.func (.func 222) #[] #[.pointer (some ⟨w.heap.size, 0, none⟩), .pointer (some ⟨w.heap.size + 1, 0, none⟩)]) ∧ w' = (w.alloc (.cells #[.int .u64 x] 52)).alloc (.cells #[.int .i64 0] 3) := by
  go_enter Tryz.func216, Tryz.ntmps216
  go_wp2_with fail
  go_ret
  exact ⟨rfl, rfl⟩
/-- Four new blocks. -/
theorem heap4 (w : World) (A B C D : Obj) : ((((w.alloc A).alloc B).alloc C).alloc D).heap[w.heap.size]? = some A ∧ ((((w.alloc A).alloc B).alloc C).alloc D).heap[w.heap.size + 1]? = some B ∧ ((((w.alloc A).alloc B).alloc C).alloc D).heap[w.heap.size + 1 + 1]? = some C ∧ ((((w.alloc A).alloc B).alloc C).alloc D).heap[w.heap.size + 1 + 1 + 1]? = some D := by
  obtain ⟨h1, h2, h3⟩ := heap3 w A B C
  refine ⟨?_, ?_, ?_, ?_⟩
  · rw [Below.heap_alloc _ _ _ (by simp <;> omega)]; exact h1
  · rw [Below.heap_alloc _ _ _ (by simp <;> omega)]; exact h2
  · rw [Below.heap_alloc _ _ _ (by simp)]; exact h3
  · have := heap_new (((w.alloc A).alloc B).alloc C) D
    simpa using this
set_option maxHeartbeats 4000000 in
theorem eof_any (x : Int) (h0 : 0 ≤ x) (h1 : x ≤ 18446744073709551615) (w : World) : Calls Tryz.prog 210 #[.int .u64 x] w fun e w' => e = .returned (.tuple #[.agg (ev (onV x)), .bool (isN x)]) ∧ Below w.heap.size w w' := by
  have bd : 0 ≤ fieldI x 0 4 ∧ fieldI x 0 4 ≤ 15 ∧ 0 ≤ fieldI x 4 24 ∧ fieldI x 4 24 ≤ 16777215 ∧ 0 ≤ fieldI x 28 16 ∧ fieldI x 28 16 ≤ 65535 := ofN_bd x h0
  obtain ⟨b0, b1, b2, b3, b4, b5⟩ := bd
  have P0 := hide (parts_any x)
  have P1 := hide (fun w A B eA eB => part_any (w := w) (A := A) (B := B) h0 h1 (a := 0) (n := 4) (by decide) (by decide) (by decide) (by omega) eA eB)
  have P2 := hide (fun w A B eA eB => part_any (w := w) (A := A) (B := B) h0 h1 (a := 4) (n := 24) (by decide) (by decide) (by decide) (by omega) eA eB)
  have P3 := hide (fun w A B eA eB => part_any (w := w) (A := A) (B := B) h0 h1 (a := 28) (n := 16) (by decide) (by decide) (by decide) (by omega) eA eB)
  have M := hide (eword3 (fieldI x 0 4) (fieldI x 4 24) (fieldI x 28 16))
  have hv : onV x = if isN x then ⟨fieldI x 0 4, fieldI x 4 24, fieldI x 28 16⟩ else ze := rfl
  rw [hv]
  have hi : isN x = (mayN ⟨fieldI x 0 4, fieldI x 4 24, fieldI x 28 16⟩ && decide (wordN ⟨fieldI x 0 4, fieldI x 4 24, fieldI x 28 16⟩ = x)) := rfl
  rw [hi]
  clear hv hi
  generalize fieldI x 0 4 = k at *
  generalize fieldI x 4 24 = v at *
  generalize fieldI x 28 16 = l at *
  cases hm : mayN ⟨k, v, l⟩ with
  | false =>
    rw [wnV_not _ hm, wnE_not _ hm] at M
    rw [show (if (false && decide (wordN ⟨k, v, l⟩ = x)) = true then (⟨k, v, l⟩ : En) else ze) = ze from rfl, Bool.false_and]
    clear hm
    go_enter Tryz.func210, Tryz.ntmps210
    go_wp2_with fail
    refine (unhide P0 _).mono ?_
    rintro e w1 ⟨rfl, rfl⟩
    go_wp2_with fail
    refine (unhide P1 _ _ _ (heap4 _ _ _ _ _).2.1 (heap4 _ _ _ _ _).2.2.1).mono ?_
    rintro e w1 ⟨rfl, rfl⟩
    go_wp2_with fail
    refine (unhide P2 _ _ _ (heap4 _ _ _ _ _).2.1 (heap4 _ _ _ _ _).2.2.1).mono ?_
    rintro e w1 ⟨rfl, rfl⟩
    go_wp2_with fail
    refine (unhide P3 _ _ _ (heap4 _ _ _ _ _).2.1 (heap4 _ _ _ _ _).2.2.1).mono ?_
    rintro e w1 ⟨rfl, rfl⟩
    go_wp2_with fail
    refine (unhide M _).mono ?_
    rintro e w1 ⟨rfl, hb⟩
    have hsz : w.heap.size + 1 + 1 + 1 + 1 ≤ w1.heap.size := by have := hb.size; simpa using this
    have K0 := hide ((hb.block w.heap.size (by simp <;> omega)).trans (heap4 w _ _ _ _).1)
    have K3 := hide ((hb.block (w.heap.size + 1 + 1 + 1) (by simp <;> omega)).trans (heap4 w _ _ _ _).2.2.2)
    have Hb := hide ((((((Below.refl _ w).alloc (Nat.le_refl _) _).alloc (by simp <;> omega) _).alloc (by simp <;> omega) _).alloc (by simp <;> omega) _).trans (hb.mono (by simp <;> omega)))
    clear hb M P0 P1 P2 P3
    rw [zero3] at K0
    rw [show (#[.int .i64 k, .int .i64 v, .int .i64 l] : Array Value) = ev ⟨k, v, l⟩ from rfl] at K3
    have s3 : (Tryz.prog.info? 41).map (·.size) = some (ev ⟨k, v, l⟩).size := size3
    have s3z : (Tryz.prog.info? 41).map (·.size) = some (ev ze).size := size3
    go_wp2_with (first | (refine wpList_build0 rfl 41 rfl _ build3 ?_) | (refine wpList_store_row rfl 41 _ _ rfl w.heap.size (ev ze) rfl rfl _ _ (unhide K0) s3z rfl (ev_one _) ?_))
    refine bodyPost_ret (v := .tuple #[.agg (ev ze), .bool false]) (results_two Tryz.results210 _ _ w.heap.size 41 (ev ze) (0, 0) _ _ rfl rfl (setRow_heap _ _ _ _ _ _ (unhide K0)) Tryz.underlying41 rfl s3z) rfl ?_
    exact ⟨rfl, below_row (unhide Hb) (by omega) _⟩
  | true =>
    rw [wnV_may _ hm, wnE_may _ hm] at M
    by_cases hq : wordN ⟨k, v, l⟩ = x
    · rw [show (if (true && decide (wordN ⟨k, v, l⟩ = x)) = true then (⟨k, v, l⟩ : En) else ze) = ⟨k, v, l⟩ by simp [hq], show (true && decide (wordN ⟨k, v, l⟩ = x)) = true by simp [hq]]
      rw [hq] at M
      clear hm hq
      have hx : (x != x) = false := by simp
      go_enter Tryz.func210, Tryz.ntmps210
      go_wp2_with fail
      refine (unhide P0 _).mono ?_
      rintro e w1 ⟨rfl, rfl⟩
      go_wp2_with fail
      refine (unhide P1 _ _ _ (heap4 _ _ _ _ _).2.1 (heap4 _ _ _ _ _).2.2.1).mono ?_
      rintro e w1 ⟨rfl, rfl⟩
      go_wp2_with fail
      refine (unhide P2 _ _ _ (heap4 _ _ _ _ _).2.1 (heap4 _ _ _ _ _).2.2.1).mono ?_
      rintro e w1 ⟨rfl, rfl⟩
      go_wp2_with fail
      refine (unhide P3 _ _ _ (heap4 _ _ _ _ _).2.1 (heap4 _ _ _ _ _).2.2.1).mono ?_
      rintro e w1 ⟨rfl, rfl⟩
      go_wp2_with fail
      refine (unhide M _).mono ?_
      rintro e w1 ⟨rfl, hb⟩
      have hsz : w.heap.size + 1 + 1 + 1 + 1 ≤ w1.heap.size := by have := hb.size; simpa using this
      have K0 := hide ((hb.block w.heap.size (by simp <;> omega)).trans (heap4 w _ _ _ _).1)
      have K3 := hide ((hb.block (w.heap.size + 1 + 1 + 1) (by simp <;> omega)).trans (heap4 w _ _ _ _).2.2.2)
      have Hb := hide ((((((Below.refl _ w).alloc (Nat.le_refl _) _).alloc (by simp <;> omega) _).alloc (by simp <;> omega) _).alloc (by simp <;> omega) _).trans (hb.mono (by simp <;> omega)))
      clear hb M P0 P1 P2 P3
      rw [zero3] at K0
      rw [show (#[.int .i64 k, .int .i64 v, .int .i64 l] : Array Value) = ev ⟨k, v, l⟩ from rfl] at K3
      have s3 : (Tryz.prog.info? 41).map (·.size) = some (ev ⟨k, v, l⟩).size := size3
      have s3z : (Tryz.prog.info? 41).map (·.size) = some (ev ze).size := size3
      go_wp2_with (first | (refine wpList_load_row rfl 41 _ rfl (w.heap.size + 1 + 1 + 1) rfl _ _ _ _ (unhide K3) Tryz.underlying41 rfl s3 ?_) | (refine wpList_store_row rfl 41 _ _ rfl w.heap.size (ev ⟨k, v, l⟩) rfl rfl _ _ (unhide K0) s3 rfl (ev_one _) ?_))
      refine bodyPost_ret (v := .tuple #[.agg (ev ⟨k, v, l⟩), .bool true]) (results_two Tryz.results210 _ _ w.heap.size 41 (ev ⟨k, v, l⟩) (0, 0) _ _ rfl rfl (setRow_heap _ _ _ _ _ _ (unhide K0)) Tryz.underlying41 rfl s3) rfl ?_
      exact ⟨rfl, below_row (unhide Hb) (by omega) _⟩
    · rw [show (if (true && decide (wordN ⟨k, v, l⟩ = x)) = true then (⟨k, v, l⟩ : En) else ze) = ze by simp [hq], show (true && decide (wordN ⟨k, v, l⟩ = x)) = false by simp [hq]]
      have hx : (wordN ⟨k, v, l⟩ != x) = true := by simpa using hq
      generalize wordN ⟨k, v, l⟩ = R at *
      clear hm hq
      go_enter Tryz.func210, Tryz.ntmps210
      go_wp2_with fail
      refine (unhide P0 _).mono ?_
      rintro e w1 ⟨rfl, rfl⟩
      go_wp2_with fail
      refine (unhide P1 _ _ _ (heap4 _ _ _ _ _).2.1 (heap4 _ _ _ _ _).2.2.1).mono ?_
      rintro e w1 ⟨rfl, rfl⟩
      go_wp2_with fail
      refine (unhide P2 _ _ _ (heap4 _ _ _ _ _).2.1 (heap4 _ _ _ _ _).2.2.1).mono ?_
      rintro e w1 ⟨rfl, rfl⟩
      go_wp2_with fail
      refine (unhide P3 _ _ _ (heap4 _ _ _ _ _).2.1 (heap4 _ _ _ _ _).2.2.1).mono ?_
      rintro e w1 ⟨rfl, rfl⟩
      go_wp2_with fail
      refine (unhide M _).mono ?_
      rintro e w1 ⟨rfl, hb⟩
      have hsz : w.heap.size + 1 + 1 + 1 + 1 ≤ w1.heap.size := by have := hb.size; simpa using this
      have K0 := hide ((hb.block w.heap.size (by simp <;> omega)).trans (heap4 w _ _ _ _).1)
      have K3 := hide ((hb.block (w.heap.size + 1 + 1 + 1) (by simp <;> omega)).trans (heap4 w _ _ _ _).2.2.2)
      have Hb := hide ((((((Below.refl _ w).alloc (Nat.le_refl _) _).alloc (by simp <;> omega) _).alloc (by simp <;> omega) _).alloc (by simp <;> omega) _).trans (hb.mono (by simp <;> omega)))
      clear hb M P0 P1 P2 P3
      rw [zero3] at K0
      rw [show (#[.int .i64 k, .int .i64 v, .int .i64 l] : Array Value) = ev ⟨k, v, l⟩ from rfl] at K3
      have s3 : (Tryz.prog.info? 41).map (·.size) = some (ev ⟨k, v, l⟩).size := size3
      have s3z : (Tryz.prog.info? 41).map (·.size) = some (ev ze).size := size3
      go_wp2_with (first | (refine wpList_build0 rfl 41 rfl _ build3 ?_) | (refine wpList_store_row rfl 41 _ _ rfl w.heap.size (ev ze) rfl rfl _ _ (unhide K0) s3z rfl (ev_one _) ?_))
      refine bodyPost_ret (v := .tuple #[.agg (ev ze), .bool false]) (results_two Tryz.results210 _ _ w.heap.size 41 (ev ze) (0, 0) _ _ rfl rfl (setRow_heap _ _ _ _ _ _ (unhide K0)) Tryz.underlying41 rfl s3z) rfl ?_
      exact ⟨rfl, below_row (unhide Hb) (by omega) _⟩

/-! ### End and Open -/
theorem open3 (k v l : Int) (w : World) : Calls Tryz.prog 144 #[.agg #[.int .i64 k, .int .i64 v, .int .i64 l]] w fun e w' => e = .returned (.bool (opB ⟨k, v, l⟩)) ∧ Below w.heap.size w w' := by
  have e0 : opB ⟨k, v, l⟩ = ((k == 0) && decide (v < 16777215)) := by
    unfold opB; rw [Bool.eq_iff_iff]; simp
  rw [e0]
  clear e0
  by_cases hk : k = 0
  · subst hk
    go_enter Tryz.func144, Tryz.ntmps144
    go_wp2_with fail
    go_ret
    exact ⟨rfl, (Below.refl _ _).alloc (Nat.le_refl _) _⟩
  · have hk1 : (k == 0) = false := by simpa using hk
    rw [hk1]
    clear hk
    go_enter Tryz.func144, Tryz.ntmps144
    go_wp2_with fail
    go_ret
    exact ⟨rfl, (Below.refl _ _).alloc (Nat.le_refl _) _⟩
theorem open_any (c : En) (w : World) : Calls Tryz.prog 144 #[.agg (ev c)] w fun e w' => e = .returned (.bool (opB c)) ∧ Below w.heap.size w w' := open3 c.k c.v c.l w
theorem end3 (k v l : Int) (hv0 : -9223372036854775808 ≤ v) (hv1 : v < 9223372036854775807) (w : World) : Calls Tryz.prog 81 #[.agg #[.int .i64 k, .int .i64 v, .int .i64 l]] w fun e w' => e = .returned (.tuple #[.agg (ev (endV ⟨k, v, l⟩)), .int .i64 (endE ⟨k, v, l⟩)]) ∧ Below w.heap.size w w' := by
  by_cases hk : k = 0
  · rw [show endV ⟨k, v, l⟩ = ze by simp [endV, hk], show endE ⟨k, v, l⟩ = 30 by simp [endE, hk]]
    subst hk
    go_enter Tryz.func81, Tryz.ntmps81
    go_wp2_with fail
    exact bodyPost_ret (v := .tuple #[.agg (ev ze), .int .i64 30]) (results_two Tryz.results81 _ _ (w.heap.size + 1) 41 (ev ze) (0, 0) _ _ rfl rfl (heap2 w _ _).2 Tryz.underlying41 rfl size3) rfl ⟨rfl, ((Below.refl _ w).alloc (Nat.le_refl _) _).alloc (by simp) _⟩
  · have hk1 : (k == 0) = false := by simpa using hk
    by_cases hv : v = 16777215
    · rw [show endV ⟨k, v, l⟩ = ⟨0, 16777215, 0⟩ by simp [endV, hk, nextI, hv], show endE ⟨k, v, l⟩ = 0 by simp [endE, hk]]
      subst hv
      clear hk
      go_enter Tryz.func81, Tryz.ntmps81
      go_wp2_with fail
      exact bodyPost_ret (v := .tuple #[.agg (ev ⟨0, 16777215, 0⟩), .int .i64 0]) (results_two Tryz.results81 _ _ (w.heap.size + 1) 41 (ev ⟨0, 16777215, 0⟩) (0, 0) _ _ rfl rfl (heap2 w _ _).2 Tryz.underlying41 rfl size3) rfl ⟨rfl, ((Below.refl _ w).alloc (Nat.le_refl _) _).alloc (by simp) _⟩
    · rw [show endV ⟨k, v, l⟩ = ⟨0, v + 1, 0⟩ by simp [endV, hk, nextI, hv], show endE ⟨k, v, l⟩ = 0 by simp [endE, hk]]
      have hv1 : (v == 16777215) = false := by simpa using hv
      clear hk hv
      go_enter Tryz.func81, Tryz.ntmps81
      go_wp2_with fail
      exact bodyPost_ret (v := .tuple #[.agg (ev ⟨0, v + 1, 0⟩), .int .i64 0]) (results_two Tryz.results81 _ _ (w.heap.size + 1) 41 (ev ⟨0, v + 1, 0⟩) (0, 0) _ _ rfl rfl (heap2 w _ _).2 Tryz.underlying41 rfl size3) rfl ⟨rfl, ((Below.refl _ w).alloc (Nat.le_refl _) _).alloc (by simp) _⟩
theorem end_any (c : En) (hv0 : -9223372036854775808 ≤ c.v) (hv1 : c.v < 9223372036854775807) (w : World) : Calls Tryz.prog 81 #[.agg (ev c)] w fun e w' => e = .returned (.tuple #[.agg (ev (endV c)), .int .i64 (endE c)]) ∧ Below w.heap.size w w' := end3 c.k c.v c.l hv0 hv1 w
end Go.Proofs.YtiafhcgaikapcaaGreat


/-
  Rows of entries in memory and by value: an entry read and written, rows compared, an entry of a row by value.
-/
namespace Go.Proofs.YtiafhcgaikapcaaGreat
open Go.ChangeShapes Go.WideShapes Go.ChangeAt Go.RowKit Go.Joins
set_option maxRecDepth 10000
set_option linter.unusedVariables false
set_option linter.unusedSimpArgs false

theorem ev_list (c : En) : (ev c).toList = [.int .i64 c.k, .int .i64 c.v, .int .i64 c.l] := rfl
theorem iv_en (zs : List Int) (i j : Nat) (h : 3 * i + 2 < zs.length) : (ev (enAt zs i)).toList[j]? = if j < 3 then (iv .i64 zs)[i * 3 + j]? else none := by
  rw [ev_list]
  match j with
  | 0 => simp [iv, enAt, List.getElem?_eq_getElem (show i * 3 < zs.length by omega), List.getElem?_eq_getElem (show 3 * i < zs.length by omega), Nat.mul_comm]
  | 1 => simp [iv, enAt, List.getElem?_eq_getElem (show i * 3 + 1 < zs.length by omega), List.getElem?_eq_getElem (show 3 * i + 1 < zs.length by omega), Nat.mul_comm]
  | 2 => simp [iv, enAt, List.getElem?_eq_getElem (show i * 3 + 2 < zs.length by omega), List.getElem?_eq_getElem (show 3 * i + 2 < zs.length by omega), Nat.mul_comm]
  | j + 3 => rw [if_neg (by omega)]; simp
theorem iv_extract (zs : List Int) (i : Nat) (h : 3 * i + 2 < zs.length) : (iv .i64 zs).extract (i * 3) (i * 3 + 3) = ev (enAt zs i) := by
  apply Array.ext_getElem?
  intro j
  have := iv_en zs i j h
  rw [Array.getElem?_toList] at this
  rw [this, Array.getElem?_extract, iv_size]
  by_cases hj : j < 3
  · rw [if_pos hj, if_pos (by omega)]
  · rw [if_neg hj, if_neg (by omega)]
theorem range_en {w : World} {b : Nat} {T : TypeId} {fr : Nat × Nat} (zs : List Int) (h : w.heap[b]? = some (.cells (iv .i64 zs) T fr)) (i : Nat) (hi : 3 * i + 2 < zs.length) : w.rangeAt b (i * 3) (ev (enAt zs i)).toList := fun j v hv => by
  rw [iv_en zs i j hi] at hv
  rw [cell_of_block h]
  by_cases hj : j < 3
  · rwa [if_pos hj] at hv
  · rw [if_neg hj] at hv; cases hv
theorem there_en {w : World} {b : Nat} {T : TypeId} (zs : List Int) (h : w.heap[b]? = some (.cells (iv .i64 zs) T (0, 0))) (i : Nat) (hi : 3 * i + 2 < zs.length) : w.there b (i * 3) 3 := fun j hj => by
  refine ⟨?_, unfrozen_of_block h _⟩
  rw [cell_of_block h, iv_get _ _ _ (by omega)]; rfl
theorem block_put3 {w : World} {b : Nat} {T : TypeId} {fr : Nat × Nat} (zs : List Int) (h : w.heap[b]? = some (.cells (iv .i64 zs) T fr)) (i : Nat) (c : En) : (w.setCells b (i * 3) (ev c).toList).heap[b]? = some (.cells (iv .i64 (put3 zs i c)) T fr) := by
  rw [ev_list]
  simp only [World.setCells]
  rw [block_setCell (block_setCell (block_setCell h _) _) _, iv_set, iv_set, iv_set, Nat.mul_comm]
  rfl
theorem heap_put3 {w : World} {b g : Nat} (hg : g ≠ b) (o : Nat) (c : En) : (w.setCells b o (ev c).toList).heap[g]? = w.heap[g]? := by
  rw [ev_list]
  simp only [World.setCells]
  rw [heap_setCell_other _ _ _ _ (by simpa using hg), heap_setCell_other _ _ _ _ (by simpa using hg), heap_setCell_other _ _ _ _ (by simpa using hg)]
theorem below_put3 {W w : World} {B b : Nat} (hb : Below B W w) (h : B ≤ b) (o : Nat) (c : En) : Below B W (w.setCells b o (ev c).toList) := by
  rw [ev_list]
  simp only [World.setCells]
  exact ((hb.setCell (p := ⟨b, _, none⟩) h _).setCell (p := ⟨b, _, none⟩) h _).setCell (p := ⟨b, _, none⟩) h _

/-- An entry loaded, behind a guard that says yes (or none). -/
theorem wpList_load_en {ops : Array Oper} {rest : List Oper} {o : Oper} {a : Act} {w : World} {Q : Exit → Act → World → Prop} (hw : Region.wanted o (yielded ops a.tmps) = true) (x : Operand) (ho : o.op = .load 41 x)
    (g off : Nat) (hx : a.eval x = .pointer (some ⟨g, off, none⟩)) (c : En) (hc : w.rangeAt g off (ev c).toList)
    (h : wpList Tryz.prog ops Q rest (a.put o.dst (.agg (ev c))) w) : wpList Tryz.prog ops Q (o :: rest) a w :=
  wpList_step fun K hK => by rw [if_pos hw]; exact wp_load_mid 41 x ho g off hx (ev c).toList _ hc Tryz.underlying41 rfl size3 (hK _ _ h)
theorem wpList_store_en {ops : Array Oper} {rest : List Oper} {o : Oper} {a : Act} {w : World} {Q : Exit → Act → World → Prop} (hgd : o.guard = none) (x y : Operand) (ho : o.op = .store 41 x y)
    (g off : Nat) (c : En) (hx : a.eval x = .pointer (some ⟨g, off, none⟩)) (hy : a.eval y = .agg (ev c)) (ht : w.there g off 3)
    (h : wpList Tryz.prog ops Q rest (a.put o.dst undef) (w.setCells g off (ev c).toList)) : wpList Tryz.prog ops Q (o :: rest) a w :=
  wpList_store_mid hgd 41 x y ho g off (ev c) hx hy ht size3 (ev_one c) h

/-! ### by value -/
theorem run_part_en (w : World) (zs : List Int) (i : Nat) (h : 3 * i + 2 < zs.length) : (part 41 (iv .i64 zs) (i * 3)).run Tryz.prog w = .ok (.agg (ev (enAt zs i))) w := by
  have hagg : (isAgg 41).run Tryz.prog w = .ok true w := by
    unfold isAgg
    rw [Sem.run_bind, run_underlying Tryz.underlying41 w]
    simp
  simp only [part, Sem.run_bind, hagg, Result.andThen_ok, if_true, run_sizeOf w 41 3 size3, Sem.run_pure, iv_extract zs i h]
theorem run_equalIn_en (d : Nat) (r t : En) (w : World) : (Op.equalIn (d + 1 + 1) 41 (.agg (ev r)) (.agg (ev t))).run Tryz.prog w = .ok (decide (r = t)) w := by
  rw [run_equalIn_struct w (d + 1) 41 _ _ (by kernel_rfl) (by kernel_rfl)]
  have hf := en_fields
  generalize (Tryz.prog.fieldsOf 41).toList = fs at hf
  have hl : fs.length = 3 := by have := congrArg List.length hf; simpa using this
  match fs, hl, hf with
  | [f0, f1, f2], _, hf =>
    simp only [List.map_cons, List.map_nil, List.cons.injEq, Prod.mk.injEq, decide_eq_false_iff_not, and_true] at hf
    obtain ⟨⟨a0, b0, c0⟩, ⟨a1, b1, c1⟩, ⟨a2, b2, c2⟩⟩ := hf
    rw [← en_eq]
    refine run_eqField w d _ _ f0 _ .i64 r.k t.k a0 (by rw [b0]; exact Tryz.underlying3) (by rw [c0]; rfl) (by rw [c0]; rfl) _ ?_
    refine run_eqField w d _ _ f1 _ .i64 r.v t.v a1 (by rw [b1]; exact Tryz.underlying3) (by rw [c1]; rfl) (by rw [c1]; rfl) _ ?_
    refine run_eqField w d _ _ f2 _ .i64 r.l t.l a2 (by rw [b2]; exact Tryz.underlying3) (by rw [c2]; rfl) (by rw [c2]; rfl) _ ?_
    simp [Op.eqFields]
theorem equal_rows (T : TypeId) (n : Nat) (hT : Tryz.prog.underlying T = some (.array n 41)) (xs ys : List Int) (hx : xs.length = 3 * n) (hy : ys.length = 3 * n) (w : World) :
    (Op.equalIn 10000 T (.agg (iv .i64 xs)) (.agg (iv .i64 ys))).run Tryz.prog w = .ok (decide (xs = ys)) w := by
  rw [run_equalIn_array w 9999 T 41 n 3 hT size3 (iv .i64 xs) (iv .i64 ys) (fun i => .agg (ev (enAt xs i))) (fun i => .agg (ev (enAt ys i))) (fun i => decide (enAt xs i = enAt ys i))
    (fun i hi => run_part_en w xs i (by omega)) (fun i hi => run_part_en w ys i (by omega)) (fun i hi => run_equalIn_en 9997 _ _ w)]
  congr 1
  rw [Bool.eq_iff_iff, decide_eq_true_iff, List.all_eq_true, row_eq_iff xs ys n hx hy]
  simp
theorem run_index_en (T : TypeId) (n : Nat) (hT : Tryz.prog.underlying T = some (.array n 41)) (W : World) (zs : List Int) (hl : zs.length = 3 * n) (k : IntKind) (i : Nat) (h : i < n) :
    Sem.run Tryz.prog (Instr.index T (.agg (iv .i64 zs)) (.int k (i : Int))) W = .ok (.agg (ev (enAt zs i))) W := by
  have h' : (0 : Int) ≤ (i : Int) ∧ (i : Int) < (n : Int) := by omega
  simp only [Instr.index, asIntOf, Sem.run_bind, Sem.run_pure, Result.andThen_ok, run_underlying hT W, if_pos h', run_sizeOf W 41 3 size3, Int.toNat_natCast]
  exact run_part_en W zs i (by omega)
theorem size147 : (Tryz.prog.info? 66).map (·.size) = some 147 := by kernel_rfl
theorem s147_of (l : List Int) (h : l.length = 147) : (Tryz.prog.info? 66).map (·.size) = some (iv .i64 l).size := by rw [iv_size, h]; exact size147


end Go.Proofs.YtiafhcgaikapcaaGreat
