import Derived.Test.YtinhnnnehhlceaaGreatOPair
import Derived.Test.YtinhnnnehhlceaaGreatPkIn
import Derived.Test.YtinhnnnehhlceaaGreatPkTel

/-
  Both stores behind a clone of the program's memory: what the old one does then leaves the new one as it was.
-/
namespace Go.Proofs.YtinhnnnehhlceaaGreat
open Go.ChangeShapes Go.WideShapes Go.ChangeAt Go.RowKit Go.Joins
set_option maxRecDepth 10000
set_option linter.unusedVariables false
set_option linter.unusedSimpArgs false

/-- A clone of the program's memory: N are the document's memory's blocks and the clone's. -/
def TwoCloned2 (W w : World) (G : Nat → Prop) (b y : Nat) (A A' : Mm) (e : Ending) (w' : World) : Prop :=
  ∃ b2 N, e = .returned (.pointer (some ⟨b2, 0, none⟩)) ∧ Has W w' (fun k => G k ∨ N k) b A ∧ Same G w w' ∧ (∀ k, G k → ¬ N k) ∧ (∀ k, N k → k < w'.heap.size) ∧ ∀ w2 B G', Has W w2 (fun k => G' k ∨ N k) b B → (∀ k, G' k → ¬ N k) → Same N w' w2 → Two W w2 G' b2 y A A'
theorem Two.clone2 {W w : World} {G : Nat → Prop} {b y : Nat} {A A' : Mm} (h : Two W w G b y A A') (hok : A.ok 1000) : Calls Tryz.prog 29 #[.pointer (some ⟨b, 0, none⟩)] w (TwoCloned2 W w G b y A A') := by
  obtain ⟨F', gs, cz, gl, ads, caps, hr, ⟨F, c, cs, h1, h2, h3, h4⟩, hF, hG⟩ := h
  refine (clone_any h1 hok).mono ?_
  rintro e w' ⟨b2, c2, F2, cs2, he, r1, r2, r3⟩
  have hlt : ∀ k, G k ∨ F' k → k < w.heap.size := fun k hk => (h4 k hk).2
  refine ⟨b2, fun k => F' k ∨ F2 k, he, ⟨F, c, cs, h1.keeps r2 fun _ _ => id, h2.trans' r2, h3, fun k hk => ?_⟩, fun k hk => r2.block k (h4 k (Or.inl hk)).2 id, fun k hk hn => ?_, fun k hk => ?_, fun w2 B G' hB hd hs => ?_⟩
  · rcases hk with hk | hk | hk
    · exact ⟨(h4 k (Or.inl hk)).1, Nat.lt_of_lt_of_le (h4 k (Or.inl hk)).2 r2.size⟩
    · exact ⟨(h4 k (Or.inr hk)).1, Nat.lt_of_lt_of_le (h4 k (Or.inr hk)).2 r2.size⟩
    · exact ⟨fun hf => by have := h1.lt k hf; have := r3 k hk; omega, r1.lt k hk⟩
  · rcases hn with hn | hn
    · exact hG k hk hn
    · have := r3 k hn; have := hlt k (Or.inl hk); omega
  · rcases hk with hk | hk
    · exact Nat.lt_of_lt_of_le (hlt k (Or.inr hk)) r2.size
    · exact r1.lt k hk
  · refine ⟨F', gs, cz, gl, ads, caps, (hr.keeps r2 fun _ _ => id).same fun k hk => hs k (Or.inl hk), ⟨F2, c2, cs2, r1.same fun k hk => hs k (Or.inr hk), hB.keeps, fun k hk => Nat.le_trans h2.size (r3 k hk), fun k hk => ⟨fun hf => ?_, ?_⟩⟩, hF, fun k hk hf => hd k hk (Or.inl hf)⟩
    · rcases hk with hk | hk
      · exact hd k hk (Or.inr hf)
      · have := r3 k hf; have := hlt k (Or.inr hk); omega
    · rcases hk with hk | hk
      · exact hB.lt k (Or.inl hk)
      · exact hB.lt k (Or.inr (Or.inl hk))

def PCloned (W : World) (P : Pl) (S : Sto) (A : Mm) (S' : Sto) (K : Nat → En) (A' : Mm) (w : World) (G : Nat → Prop) (e : Ending) (w' : World) : Prop :=
  ∃ m2 H, e = .returned (.pointer (some ⟨m2, 0, none⟩)) ∧ SHas W P.m P.b (fun A w G => Has W w G P.m A) S A w' H ∧ (∀ k, G k → H k) ∧ Same G w w' ∧
    ∀ w2 S3 A3 b2, SHas W P.m P.b (fun A w G => Has W w G P.m A) S3 A3 w2 (fun k => H k ∨ k = b2) → SRep m2 S w2 b2 → w'.heap.size ≤ b2 → Same H w' w2 → PP W ⟨m2, b2, P.z, P.y, P.f, P.g⟩ S A S' K A' w2 G
theorem PP.clone {W w : World} {P : Pl} {S S' : Sto} {K : Nat → En} {A A' : Mm} {G : Nat → Prop} (h : PP W P S A S' K A' w G) (hok : A.ok 1000) :
    Calls Tryz.prog 29 #[.pointer (some ⟨P.m, 0, none⟩)] w (PCloned W P S A S' K A' w G) := by
  refine (h.sh.st.clone2 hok).mono ?_
  rintro e w' ⟨m2, N, rfl, h1, h2, h3, h3b, h4⟩
  have hrep : SRep P.m S w' P.b := by
    have := h.srep
    unfold SRep Blk at this ⊢
    rw [h2 P.b (Or.inr rfl)]; exact this
  refine ⟨m2, fun k => (G k ∨ k = P.y ∨ k = P.f ∨ k = P.g) ∨ N k, rfl, ⟨hrep, h1.less fun k hk => ?_, fun hk => ?_, h.sh.new⟩, fun k hk => Or.inl (Or.inl hk), fun k hk => h2 k (Or.inl (Or.inl hk)), fun w2 S3 A3 b2 hw hr hb hs => ?_⟩
  · rcases hk with (hk | hk) | hk
    · exact Or.inl (Or.inl hk)
    · exact Or.inr hk
    · exact Or.inl (Or.inr hk)
  · rcases hk with hk | hk
    · exact h.sh.nb hk
    · exact h3 P.b (Or.inr rfl) hk
  · have hlt : ∀ k, (G k ∨ k = P.y ∨ k = P.f ∨ k = P.g) → k < w'.heap.size := fun k hk => h1.lt k (Or.inl (Or.inl hk))
    have hsm : ∀ k, (G k ∨ k = P.y ∨ k = P.f ∨ k = P.g) → w2.heap[k]? = w.heap[k]? := fun k hk => (hs k (Or.inl hk)).trans (h2 k (Or.inl hk))
    refine ⟨?_, h.fr.same (hsm P.f (Or.inr (Or.inr (Or.inl rfl)))) (hsm P.g (Or.inr (Or.inr (Or.inr rfl)))), ?_, h.ny, h.nf, h.ng, h.yf, h.yg, h.wy, h.wf, h.wg⟩
    · have := h.rep
      unfold YRep Blk at this ⊢
      rw [hsm P.y (Or.inr (Or.inl rfl))]; exact this
    · have hW : W.heap.size ≤ b2 := Nat.le_trans h1.keeps.size hb
      refine ⟨hr, h4 w2 A3 _ (hw.st.less fun k hk => ?_) (fun k hk hn => ?_) (fun k hk => hs k (Or.inr hk)), fun hk => by have := hlt b2 hk; omega, hW⟩
      · rcases hk with (hk | hk) | hk
        · exact Or.inl (Or.inl (Or.inl hk))
        · exact Or.inl (Or.inr hk)
        · exact Or.inl (Or.inl (Or.inr hk))
      · rcases hk with hk | hk
        · exact h3 k (Or.inl hk) hn
        · have h6 := h3b k hn
          have h7 : k = b2 := hk
          omega

end Go.Proofs.YtinhnnnehhlceaaGreat


/-
  A row of the call's own that grows, beside a state that turns; objects held against one another.
-/
namespace Go.Proofs.YtinhnnnehhlceaaGreat
open Go.ChangeShapes Go.WideShapes Go.ChangeAt Go.RowKit Go.Joins
set_option maxRecDepth 10000
set_option linter.unusedVariables false
set_option linter.unusedSimpArgs false

theorem keeps_madeF {F : Nat → Prop} {w w' : World} {o : Obj} (hk : Keeps F w w') (h : w'.heap[w.heap.size]? = some o) : Keeps F (w.alloc o) w' := by
  have hlt := lt_of_heapO h
  have hs : (w.alloc o).heap.size = w.heap.size + 1 := by simp
  refine ⟨hk.os, hk.tape, hk.output, by rw [hs]; omega, fun k hk' hF => ?_⟩
  rw [hs] at hk'
  by_cases e : k = w.heap.size
  · rw [e, h, heap_new]
  · rw [hk.block k (by omega) hF, Below.heap_alloc _ _ _ (by omega)]
theorem stay_grows {W : World} {St : World → (Nat → Prop) → Prop} {F : Nat → Prop} {w w' : World} {G : Nat → Prop} (S : Stay W St) (h : St w G) (hk : Keeps F w w') :
    ∀ d, w.heap.size + d ≤ w'.heap.size → ∃ u, St u (fun k => G k ∨ (w.heap.size ≤ k ∧ k < w.heap.size + d)) ∧ Keeps F u w' ∧ u.heap.size = w.heap.size + d
  | 0, _ => ⟨w, S.ls _ _ _ h (fun k hk => by
      rcases hk with hk | hk
      · exact hk
      · omega), hk, rfl⟩
  | d + 1, hd => by
    obtain ⟨u, h1, h2, h3⟩ := stay_grows S h hk d (by omega)
    obtain ⟨o, ho⟩ : ∃ o, w'.heap[u.heap.size]? = some o := ⟨w'.heap[u.heap.size]'(by omega), Array.getElem?_eq_getElem _⟩
    refine ⟨u.alloc o, S.ls _ _ _ (S.al _ _ o h1) (fun k hk => ?_), keeps_madeF h2 ho, by simp; omega⟩
    rcases hk with hk | hk
    · exact Or.inl (Or.inl hk)
    · by_cases e : k = u.heap.size
      · exact Or.inr e
      · exact Or.inl (Or.inr (by omega))
/-- The row has grown: the state stands beside it as before. -/
theorem stay_row {W : World} {St : World → (Nat → Prop) → Prop} {w w' : World} {G : Nat → Prop} {v v' : Value} {zs zs' : List Int} (S : Stay W St) (h : St w (fun k => G k ∨ v.ownBlock = some k)) (hr : RowX W.heap.size v zs w) (hg : w.grownBy w' v.ownBlock)
    (hr' : RowX W.heap.size v' zs' w') (h5 : v'.ownBlock = v.ownBlock ∨ ∃ k, v'.ownBlock = some k ∧ w.heap.size ≤ k) : St w' (fun k => G k ∨ v'.ownBlock = some k) := by
  have hk : Keeps (fun k => v.ownBlock = some k) w w' := Keeps.grown (Keeps.refl _ _) hg (fun k e => Or.inl e)
  obtain ⟨u, h1, h2, h3⟩ := stay_grows S h hk (w'.heap.size - w.heap.size) (by have := hk.size; omega)
  have hin : ∀ k, (G k ∨ v'.ownBlock = some k) → (G k ∨ v.ownBlock = some k) ∨ (w.heap.size ≤ k ∧ k < w.heap.size + (w'.heap.size - w.heap.size)) := fun k hk' => by
    rcases hk' with hk' | hk'
    · exact Or.inl (Or.inl hk')
    · rcases h5 with h5 | ⟨k', h5, h6⟩
      · exact Or.inl (Or.inr (h5.symm.trans hk'))
      · have e := Option.some.inj (h5.symm.trans hk')
        have := (hr'.lt k hk').2
        exact Or.inr (by omega)
  cases hv : v.ownBlock with
  | none =>
    rw [hv] at h2
    have h4 : Keeps (fun _ => False) u w' := h2.mono fun k _ e => by cases e
    exact S.ls _ _ _ (S.bl _ _ _ h1 h4) hin
  | some L =>
    rw [hv] at h2
    have h4 : Keeps (· = L) u w' := h2.mono fun k _ e => (Option.some.inj e).symm
    exact S.ls _ _ _ (S.ow _ _ _ L h1 (Or.inl (Or.inr hv)) (hr.lt L hv).1 h4) hin
/-- One more int behind the row, beside a state. -/
theorem push_pp {W w : World} {St : World → (Nat → Prop) → Prop} {G : Nat → Prop} {v : Value} {zs : List Int} {ops : Array Oper} {rest : List Oper} {o : Oper} {a : Act} {Q : Exit → Act → World → Prop} (S : Stay W St) (z : Int) (hgd : o.guard = none) (s x : Operand) (ho : o.op = .call { callee := .builtin .append, args := #[s, x], argTypes := #[100, 100] })
    (hs : a.eval s = v) (hst : St w (fun k => G k ∨ v.ownBlock = some k)) (hr : RowX W.heap.size v zs w) (hd : ∀ k, G k → v.ownBlock ≠ some k) (hx : a.eval x = .slice (some ⟨w.heap.size, 0, none⟩) 1 1) (hlen : zs.length < 1000)
    (h : ∀ v' w', RowX W.heap.size v' (zs ++ [z]) w' → St w' (fun k => G k ∨ v'.ownBlock = some k) → Same G w w' → (∀ k, G k → v'.ownBlock ≠ some k) → wpList Tryz.prog ops Q rest (a.put o.dst v') w') :
    wpList Tryz.prog ops Q (o :: rest) a (w.alloc (.cells #[.int .i64 z] 3)) := by
  obtain ⟨i0, hi, hz0, hz1, hz2⟩ := info_parts info_int
  have hlt : ∀ k, G k → k < w.heap.size := fun k hk => S.lt _ _ hst k (Or.inl hk)
  have hr1 : RowX W.heap.size v zs (w.alloc (.cells #[.int .i64 z] 3)) := hr.same fun k e => Below.heap_alloc _ _ _ (hr.lt k e).2
  have hst1 : St (w.alloc (.cells #[.int .i64 z] 3)) (fun k => G k ∨ v.ownBlock = some k) := S.ls _ _ _ (S.al _ _ _ hst) (fun k hk => Or.inl hk)
  have hsz := (S.sz _ _ hst1).size
  refine wpList_append_own_at _ hgd s x 100 ho W.heap.size 3 i0 (.int .i64 0) 1 8 Tryz.underlying100 hi hz0 hz1 hz2 rfl (by decide) v zs.length (intsX zs) hs hr1 ⟨w.heap.size, 0, none⟩ 1 1 [.int .i64 z] hx rfl ?_ ?_ ?_ ?_ ?_ ?_
  · intro j u hj
    match j, hj with
    | 0, hj =>
      simp at hj; subst hj
      rw [show (⟨w.heap.size, 0, none⟩ : Addr).add 0 = ⟨w.heap.size, 0, none⟩ from rfl, cell_of_block (heap_new w _)]; rfl
    | j + 1, hj => simp at hj
  · intro u hu; simp at hu; subst hu; rfl
  · unfold maxLen; omega
  · omega
  · exact hsz
  · intro v' w' h2 h3 _ h5
    have h2' : RowX W.heap.size v' (zs ++ [z]) w' := by
      show w'.ownsRow W.heap.size 3 1 v' (zs ++ [z]).length (intsX (zs ++ [z]))
      rw [List.length_append, show intsX (zs ++ [z]) = intsX zs ++ [.int .i64 z] by simp [intsX]]
      exact h2
    refine h v' w' h2' (stay_row S hst1 hr1 h3 h2' (h5.imp id fun e => ⟨_, e, Nat.le_refl _⟩)) (fun k hk => ?_) (fun k hk e => ?_)
    · rw [h3.block k (by have := hlt k hk; simp; omega) (fun e => hd k hk e.symm)]
      exact Below.heap_alloc _ _ _ (hlt k hk)
    · rcases h5 with h5 | h5
      · exact hd k hk (h5.symm.trans e)
      · rw [h5] at e
        have := Option.some.inj e
        have := hlt k hk
        simp at *
        omega

theorem ob_fields : ((Tryz.prog.fieldsOf 87).toList.map fun f => (decide (f.name = "_"), f.type, f.offset)) = [(false, 3, 0), (false, 3, 1), (false, 83, 2)] := by kernel_rfl
theorem ob_guard : Tryz.prog.eqGuardType Tryz.prog.depth 87 = false := by kernel_rfl
theorem ln_iv (f : Nat → Int) : lnV f = iv .u64 ((List.range 8).map f) := by
  refine Array.ext_getElem? fun i => ?_
  by_cases h : i < 8
  · rw [lnV_get f i h, ← Array.getElem?_toList]
    simp [iv, h]
  · rw [Array.getElem?_eq_none (by rw [lnV_size]; omega), Array.getElem?_eq_none (by rw [iv_size]; simp; omega)]
theorem run_part_ln (w : World) (k v : Int) (f : Nat → Int) : (part 83 (obV k v f) 2).run Tryz.prog w = .ok (.agg (lnV f)) w := by
  have hagg : (isAgg 83).run Tryz.prog w = .ok true w := by
    unfold isAgg
    rw [Sem.run_bind, run_underlying Tryz.underlying83 w]
    simp
  have hs : (sizeOf 83).run Tryz.prog w = .ok 8 w := run_sizeOf w 83 8 (by kernel_rfl)
  have he : (obV k v f).extract 2 (2 + 8) = lnV f := by
    unfold obV
    refine Array.ext_getElem? fun i => ?_
    rw [Array.getElem?_extract]
    by_cases h : i < 8
    · rw [if_pos (by rw [Array.size_append, lnV_size]; simp; omega), Array.getElem?_append_right (by simp)]
      simp
    · rw [if_neg (by rw [Array.size_append, lnV_size]; simp; omega), Array.getElem?_eq_none (by rw [lnV_size]; omega)]
  simp [part, Sem.run_bind, hagg, hs, he]
theorem equal_ln (d : Nat) (f : Nat → Int) (w : World) : (Op.equalIn (d + 2) 83 (.agg (lnV f)) (.agg (lnV f))).run Tryz.prog w = .ok true w := by
  rw [ln_iv]
  have := run_equalIn_ints w d 83 52 .u64 8 Tryz.underlying83 Tryz.underlying52 (by kernel_rfl) ((List.range 8).map f) ((List.range 8).map f) (by simp) (by simp)
  rw [decide_eq_true rfl] at this
  exact this
theorem ob_0 (k v : Int) (f : Nat → Int) : (obV k v f)[0]? = some (.int .i64 k) := by unfold obV; rw [Array.getElem?_append_left (by simp)]; rfl
theorem ob_1 (k v : Int) (f : Nat → Int) : (obV k v f)[1]? = some (.int .i64 v) := by unfold obV; rw [Array.getElem?_append_left (by simp)]; rfl
theorem equal_ob (k v : Int) (f : Nat → Int) (w : World) : (Op.equalIn 10000 87 (.agg (obV k v f)) (.agg (obV k v f))).run Tryz.prog w = .ok true w := by
  rw [run_equalIn_struct w 9999 87 _ _ (by kernel_rfl) (by kernel_rfl)]
  have hf := ob_fields
  generalize (Tryz.prog.fieldsOf 87).toList = fs at hf
  have hl : fs.length = 3 := by have := congrArg List.length hf; simpa using this
  match fs, hl, hf with
  | [f0, f1, f2], _, hf =>
    simp only [List.map_cons, List.map_nil, List.cons.injEq, Prod.mk.injEq, decide_eq_false_iff_not, and_true] at hf
    obtain ⟨⟨a0, b0, c0⟩, ⟨a1, b1, c1⟩, ⟨a2, b2, c2⟩⟩ := hf
    have e : (k == k && (v == v && true)) = true := by simp
    rw [← e]
    refine run_eqField w 9998 _ _ f0 _ .i64 k k a0 (by rw [b0]; exact Tryz.underlying3) (by rw [c0]; exact ob_0 _ _ _) (by rw [c0]; exact ob_0 _ _ _) _ ?_
    refine run_eqField w 9998 _ _ f1 _ .i64 v v a1 (by rw [b1]; exact Tryz.underlying3) (by rw [c1]; exact ob_1 _ _ _) (by rw [c1]; exact ob_1 _ _ _) _ ?_
    rw [Op.eqFields, if_pos a2]
    simp only [b2, c2, Sem.run_bind, run_part_ln, Result.andThen_ok, equal_ln]
    simp [Op.eqFields]

end Go.Proofs.YtinhnnnehhlceaaGreat
