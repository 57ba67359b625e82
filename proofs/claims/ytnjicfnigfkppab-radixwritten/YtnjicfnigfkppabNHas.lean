
/-
  A memory that a call has made, beside blocks of the call's own: what each of nvm's calls leaves.
-/
import Derived.Test.YtnjicfnigfkppabNOf
import Derived.Test.YtnjicfnigfkppabEqual
namespace Go.Proofs.Ytnjicfnigfkppab
open Go.ChangeShapes Go.WideShapes Go.ChangeAt Go.RowKit Go.Joins
set_option maxRecDepth 10000
set_option linter.unusedVariables false
set_option linter.unusedSimpArgs false

/-! ### Numbers stay in their bounds -/
theorem ok_mono {A : Mm} {B B' : Nat} (h : A.ok B) (hB : B ≤ B') : A.ok B' := ⟨h.1, h.2.1, h.2.2.1, fun i => Nat.le_trans (h.2.2.2.1 i) hB, h.2.2.2.2.1, h.2.2.2.2.2.1, Nat.le_trans h.2.2.2.2.2.2 hB⟩
theorem ok_step {A : Mm} {B : Nat} (h : A.ok B) (l : Nat → Ln) (h1 : ∀ i, (l i).ok) (h2 : ∀ i, (l i).t.length ≤ B + 1) : (A.step l).ok (B + 1) := by
  obtain ⟨o1, o2, o3, o4, o5, o6, o7⟩ := h
  unfold Mm.step
  split
  · refine ⟨o1, o2, h1, h2, ?_, ?_, Nat.add_le_add_right o7 1⟩
    · simp only [Mm.stepped]; split <;> omega
    · simp only [Mm.stepped]; split <;> omega
  · exact ⟨o1, o2, o3, fun i => Nat.le_succ_of_le (o4 i), o5, o6, Nat.le_succ_of_le o7⟩
theorem upd_all {α : Type} {P : α → Prop} {f : Nat → α} (h : ∀ i, P (f i)) (k : Nat) {v : α} (hv : P v) : ∀ i, P (upd f k v i) := fun i => by
  unfold upd; split
  · exact hv
  · exact h i
theorem ok_store {A : Mm} {B : Nat} (h : A.ok B) (k q : Nat) (v : Int) (hq : q < 8) (hv : InU v) : (A.store k q v).ok (B + 1) :=
  ok_step h _ (upd_all h.2.2.1 k (Ln.store_ok (h.2.2.1 k) q v hq hv)) (upd_all (P := fun (l : Ln) => l.t.length ≤ B + 1) (fun i => Nat.le_succ_of_le (h.2.2.2.1 i)) k (by have := h.2.2.2.1 k; simp [Ln.store]; omega))
theorem ok_flush {A : Mm} {B : Nat} (h : A.ok B) (c k : Nat) : (A.flush c k).ok (B + 1) :=
  ok_step h _ (upd_all h.2.2.1 k (Ln.flush_ok (h.2.2.1 k) c)) (upd_all (P := fun (l : Ln) => l.t.length ≤ B + 1) (fun i => Nat.le_succ_of_le (h.2.2.2.1 i)) k (by have := h.2.2.2.1 k; simp [Ln.flush]; omega))
theorem ok_fence {A : Mm} {B : Nat} (h : A.ok B) (c : Nat) : (A.fence c).ok (B + 1) :=
  ok_step h _ (fun i => Ln.settle_ok (h.2.2.1 i) _) (fun i => by have := h.2.2.2.1 i; simp [Ln.settle]; omega)
theorem ok_evict {A : Mm} {B : Nat} (h : A.ok B) (k n : Nat) : (A.evict k n).ok B :=
  ⟨h.1, h.2.1, upd_all h.2.2.1 k (Ln.settle_ok (h.2.2.1 k) _), upd_all (P := fun (l : Ln) => l.t.length ≤ B) h.2.2.2.1 k (by have := h.2.2.2.1 k; simp [Ln.settle]; omega), h.2.2.2.2⟩
theorem ok_fused {A : Mm} {B : Nat} (h : A.ok B) (z : Int) (hz : In64 z) : (A.fused z).ok B := by
  obtain ⟨o1, o2, o3, o4, o5, o6, o7⟩ := h
  obtain ⟨z1, z2⟩ := hz
  refine ⟨o1, o2, o3, o4, ?_, ?_, o7⟩ <;> (simp only [Mm.fused]; split <;> omega)
theorem ok_crash {A : Mm} {B : Nat} (h : A.ok B) (keep : List Int) : (A.crash keep).ok B :=
  ⟨h.1, h.2.1, fun i => Ln.lose_ok (Ln.settle_ok (h.2.2.1 i) _), fun i => by simp [Mm.crash, crashL, Ln.lose], by simp [Mm.crash], by simp [Mm.crash], h.2.2.2.2.2.2⟩
theorem ok_new {n : Nat} {s : Nat → Nat → Int} (h1 : 64 ≤ n) (h2 : n ≤ 1024) (hs : ∀ i j, InU (s i j)) : (Mm.new n s).ok 0 :=
  ⟨h1, h2, fun i => Ln.of_ok (hs i), fun i => by simp [Mm.new, Ln.of], by simp [Mm.new], by simp [Mm.new], by simp [Mm.new]⟩

/-! ### A memory beside blocks of the call's own -/
def Same (G : Nat → Prop) (w w' : World) : Prop := ∀ k, G k → w'.heap[k]? = w.heap[k]?
theorem Same.trans {G : Nat → Prop} {a b c : World} (h : Same G a b) (k : Same G b c) : Same G a c := fun i hi => (k i hi).trans (h i hi)
def Has (W w : World) (G : Nat → Prop) (b : Nat) (A : Mm) : Prop :=
  ∃ F c cs, Rep w F b A c cs ∧ Keeps (fun _ => False) W w ∧ (∀ k, F k → W.heap.size ≤ k) ∧ ∀ k, G k → ¬ F k ∧ k < w.heap.size
theorem Has.keeps {W w : World} {G : Nat → Prop} {b : Nat} {A : Mm} (h : Has W w G b A) : Keeps (fun _ => False) W w := by
  obtain ⟨_, _, _, _, h, _⟩ := h; exact h
/-- Behind a call. -/
theorem went_has {W w : World} {F G : Nat → Prop} {b c : Nat} {A' : Mm} {v : Value} {e : Ending} {w' : World} (hk : Keeps (fun _ => False) W w) (hF : ∀ k, F k → W.heap.size ≤ k) (hG : ∀ k, G k → ¬ F k ∧ k < w.heap.size) (h : Went F w b c A' v e w') :
    e = .returned v ∧ Has W w' G b A' ∧ Same G w w' := by
  obtain ⟨he, F', cs', h1, h2, h3⟩ := h
  refine ⟨he, ⟨F', c, cs', h1, ⟨h2.os.trans hk.os, h2.tape.trans hk.tape, h2.output.trans hk.output, Nat.le_trans hk.size h2.size, fun k hk' _ => ?_⟩, fun k hk' => ?_, fun k hk' => ⟨fun hf => ?_, Nat.lt_of_lt_of_le (hG k hk').2 h2.size⟩⟩, fun k hk' => h2.block k (hG k hk').2 (hG k hk').1⟩
  · rw [h2.block k (Nat.lt_of_lt_of_le hk' hk.size) (fun hf => by have := hF k hf; omega)]; exact hk.block k hk' id
  · rcases h3 k hk' with h | h
    · exact hF k h
    · exact Nat.le_trans hk.size h
  · rcases h3 k hf with h | h
    · exact (hG k hk').1 h
    · have := (hG k hk').2; omega
def After (W w : World) (G : Nat → Prop) (b : Nat) (A' : Mm) (v : Value) (e : Ending) (w' : World) : Prop := e = .returned v ∧ Has W w' G b A' ∧ Same G w w'

theorem Has.alloc {W w : World} {G : Nat → Prop} {b : Nat} {A : Mm} (h : Has W w G b A) (o : Obj) : Has W (w.alloc o) (fun k => G k ∨ k = w.heap.size) b A := by
  obtain ⟨F, c, cs, h1, h2, h3, h4⟩ := h
  refine ⟨F, c, cs, h1.alloc o, h2.alloc o, h3, fun k hk => ?_⟩
  rcases hk with hk | rfl
  · exact ⟨(h4 k hk).1, by have := (h4 k hk).2; simp; omega⟩
  · exact ⟨by have := h1.fresh 0; simpa using this, by simp⟩
theorem Has.drew {W w : World} {G : Nat → Prop} {b : Nat} {A : Mm} (h : Has W w G b A) : Has W w.drew G b A := by
  obtain ⟨F, c, cs, h1, h2, h3, h4⟩ := h
  exact ⟨F, c, cs, h1.drew, h2.drew, h3, h4⟩
theorem Has.less {W w : World} {G G' : Nat → Prop} {b : Nat} {A : Mm} (h : Has W w G b A) (hG : ∀ k, G' k → G k) : Has W w G' b A := by
  obtain ⟨F, c, cs, h1, h2, h3, h4⟩ := h
  exact ⟨F, c, cs, h1, h2, h3, fun k hk => h4 k (hG k hk)⟩
/-- A block of the call's own is written. -/
theorem Has.own {W w w' : World} {G : Nat → Prop} {b : Nat} {A : Mm} (h : Has W w G b A) {L : Nat} (hL : G L) (hW : W.heap.size ≤ L) (hk : Keeps (· = L) w w') : Has W w' G b A := by
  obtain ⟨F, c, cs, h1, h2, h3, h4⟩ := h
  refine ⟨F, c, cs, h1.keeps hk fun x hx e => (h4 L hL).1 (e ▸ hx), ⟨hk.os.trans h2.os, hk.tape.trans h2.tape, hk.output.trans h2.output, Nat.le_trans h2.size hk.size, fun k hk' _ => ?_⟩, h3, fun k hk' => ⟨(h4 k hk').1, Nat.lt_of_lt_of_le (h4 k hk').2 hk.size⟩⟩
  rw [hk.block k (Nat.lt_of_lt_of_le hk' h2.size) (by omega)]; exact h2.block k hk' id
theorem Has.lt {W w : World} {G : Nat → Prop} {b : Nat} {A : Mm} (h : Has W w G b A) : ∀ k, G k → k < w.heap.size := by
  obtain ⟨F, c, cs, h1, h2, h3, h4⟩ := h
  exact fun k hk => (h4 k hk).2
theorem made_has {w : World} {n : Nat} {s : Nat → Nat → Int} {e : Ending} {w' : World} (W : World) (hW : Keeps (fun _ => False) W w) (h : Made w n s e w') (G : Nat → Prop) (hG : ∀ k, G k → k < w.heap.size) :
    ∃ b, e = .returned (.tuple #[.pointer (some ⟨b, 0, none⟩), .int .i64 0]) ∧ Has W w' G b (Mm.new n s) ∧ Same G w w' := by
  obtain ⟨b, c, F, cs, h1, h2, h3, h4⟩ := h
  exact ⟨b, h1, ⟨F, c, cs, h2, hW.trans' h3, fun k hk => Nat.le_trans hW.size (h4 k hk), fun k hk => ⟨fun hf => by have := h4 k hf; have := hG k hk; omega, Nat.lt_of_lt_of_le (hG k hk) h3.size⟩⟩, fun k hk => h3.block k (hG k hk) id⟩

theorem Has.load {W w : World} {G : Nat → Prop} {b : Nat} {A : Mm} (h : Has W w G b A) (z : Int) (k : Nat) (ez : z = (k : Int)) (hk : k < A.n) (hon : A.on = true) (hn : A.n ≤ 1024) :
    Calls Try.prog 29 #[.pointer (some ⟨b, 0, none⟩), .int .i64 z] w (After W w G b A (.tuple #[.agg (lnV (A.l k).has), .int .i64 0])) := by
  obtain ⟨F, c, cs, h1, h2, h3, h4⟩ := h
  exact (load_any h1 z k ez hk hon hn).mono fun e w' hw => went_has h2 h3 h4 hw
theorem Has.load_bad {W w : World} {G : Nat → Prop} {b : Nat} {A : Mm} (h : Has W w G b A) (z : Int) (hz : ¬ (0 ≤ z ∧ z < A.n)) :
    Calls Try.prog 29 #[.pointer (some ⟨b, 0, none⟩), .int .i64 z] w (After W w G b A (.tuple #[.agg (lnV fun _ => 0), .int .i64 1])) := by
  obtain ⟨F, c, cs, h1, h2, h3, h4⟩ := h
  exact (Go.Proofs.Ytnjicfnigfkppab.load_bad h1 z hz).mono fun e w' hw => went_has h2 h3 h4 hw
theorem Has.load_off {W w : World} {G : Nat → Prop} {b : Nat} {A : Mm} (h : Has W w G b A) (z : Int) (hz : 0 ≤ z ∧ z < A.n) (hon : A.on = false) :
    Calls Try.prog 29 #[.pointer (some ⟨b, 0, none⟩), .int .i64 z] w (After W w G b A (.tuple #[.agg (lnV fun _ => 0), .int .i64 4])) := by
  obtain ⟨F, c, cs, h1, h2, h3, h4⟩ := h
  exact (Go.Proofs.Ytnjicfnigfkppab.load_off h1 z hz hon).mono fun e w' hw => went_has h2 h3 h4 hw
theorem Has.isOn {W w : World} {G : Nat → Prop} {b : Nat} {A : Mm} (h : Has W w G b A) :
    Calls Try.prog 16 #[.pointer (some ⟨b, 0, none⟩)] w fun e w' => e = .returned (.bool A.on) ∧ w' = w := by
  obtain ⟨F, c, cs, h1, h2, h3, h4⟩ := h
  exact on_any h1

/-! ### A line stored into a variable that was just laid -/
theorem store_line (f : Nat → Int) : ∀ (U : World) (C : Array Value), C.size = 8 → Sem.run Try.prog (storeCells ⟨U.heap.size, 0, none⟩ (lnV f).toList) (U.alloc (.cells C 32)) = .ok () (U.alloc (.cells (lnV f) 32)) :=
  fun U C hC => run_store_new _ _ rfl C _ _ (by rw [hC, lnV_size]) (lnV_one _)

/-! ### '==' on lines -/
def eqL (f g : Nat → Int) : Bool := (List.range 8).all fun j => f j == g j
theorem eqL_iff (f g : Nat → Int) : eqL f g = true ↔ ∀ j, j < 8 → f j = g j := by
  simp [eqL]
theorem eqL_refl (f : Nat → Int) : eqL f f = true := (eqL_iff _ _).2 fun _ _ => rfl
theorem line_guard : Try.prog.eqGuardType Try.prog.depth 32 = false := by kernel_rfl
theorem equal_lines (f g : Nat → Int) (w : World) : (Op.equalIn 10000 32 (.agg (lnV f)) (.agg (lnV g))).run Try.prog w = .ok (eqL f g) w := by
  have he : Try.prog.underlying 30 = some (.int .u64) := Try.underlying30
  have hp : ∀ (h : Nat → Int) (i : Nat), i < 8 → (part 30 (lnV h) (i * 1)).run Try.prog w = .ok (.int .u64 (h i)) w := fun h i hi => by
    have hagg : (isAgg 30).run Try.prog w = .ok false w := by
      unfold isAgg
      rw [Sem.run_bind, run_underlying he w]
      simp
    rw [Nat.mul_one]
    simp [part, Sem.run_bind, hagg, show (lnV h)[i]? = some (.int .u64 (h i)) from tab_get _ _ _ hi]
  exact run_equalIn_array w 9999 32 30 8 1 Try.underlying32 (by kernel_rfl) (lnV f) (lnV g) (fun i => .int .u64 (f i)) (fun i => .int .u64 (g i)) (fun i => f i == g i) (hp f) (hp g)
    (fun i _ => run_equalIn_int w 9998 30 .u64 .u64 _ _ he)

theorem wpList_eql {ops : Array Oper} {rest : List Oper} {o : Oper} {a : Act} {w : World} {Q : Exit → Act → World → Prop} (hw : Region.wanted o (yielded ops a.tmps) = true) (x y : Operand) (ho : o.op = .binOp .eql 32 x y 32)
    (f g : Nat → Int) (hx : a.eval x = .agg (lnV f)) (hy : a.eval y = .agg (lnV g)) (h : wpList Try.prog ops Q rest (a.put o.dst (.bool (eqL f g))) w) : wpList Try.prog ops Q (o :: rest) a w :=
  wpList_step fun K hK => by
    rw [if_pos hw]
    unfold Oper.wp execOp
    simp only [ho, hx, hy, Sem.run_bind, run_eqGuard_agg w .eql 32 x y (lnV f) (lnV g) line_guard, Result.andThen_ok, run_eql_struct, equal_lines, Sem.run_pure]
    exact hK _ _ h
theorem wpList_neq {ops : Array Oper} {rest : List Oper} {o : Oper} {a : Act} {w : World} {Q : Exit → Act → World → Prop} (hw : Region.wanted o (yielded ops a.tmps) = true) (x y : Operand) (ho : o.op = .binOp .neq 32 x y 32)
    (f g : Nat → Int) (hx : a.eval x = .agg (lnV f)) (hy : a.eval y = .agg (lnV g)) (h : wpList Try.prog ops Q rest (a.put o.dst (.bool (!eqL f g))) w) : wpList Try.prog ops Q (o :: rest) a w :=
  wpList_step fun K hK => by
    rw [if_pos hw]
    unfold Oper.wp execOp
    simp only [ho, hx, hy, Sem.run_bind, run_eqGuard_agg w .neq 32 x y (lnV f) (lnV g) line_guard, Result.andThen_ok, run_neq_struct, equal_lines, Sem.run_pure]
    exact hK _ _ h
theorem yieldsIf_neqL {ops : Array Oper} {S : World → Prop} {op : Oper} {a : Act} (hw : Region.wanted op (yielded ops a.tmps) = true) (x y : Operand) (ho : op.op = .binOp .neq 32 x y 32)
    (f g : Nat → Int) (hx : a.eval x = .agg (lnV f)) (hy : a.eval y = .agg (lnV g)) : YieldsIf Try.prog ops S op (.bool (!eqL f g)) a :=
  .inl ⟨hw, fun w _ => by
    unfold execOp
    simp only [ho, hx, hy, Sem.run_bind, run_eqGuard_agg w .neq 32 x y (lnV f) (lnV g) line_guard, Result.andThen_ok, run_neq_struct, equal_lines, Sem.run_pure]⟩
theorem wpList_buildL {ops : Array Oper} {rest : List Oper} {o : Oper} {a : Act} {w : World} {Q : Exit → Act → World → Prop} (hw : Region.wanted o (yielded ops a.tmps) = true) (parts : Array (Nat × Operand)) (ho : o.op = .build 32 parts) (g : Nat → Int)
    (hb : Try.prog.built 32 (parts.map fun p => (p.1, a.eval p.2)).toList = some (lnV g)) (h : wpList Try.prog ops Q rest (a.put o.dst (.agg (lnV g))) w) : wpList Try.prog ops Q (o :: rest) a w :=
  wpList_step fun K hK => by
    rw [if_pos hw]
    unfold Oper.wp execOp
    simp only [ho, Sem.run_bind, run_build w 32 _ _ hb, Result.andThen_ok]
    exact hK _ _ h

end Go.Proofs.Ytnjicfnigfkppab
