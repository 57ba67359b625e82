
/-
  How a worker lies in the program's memory: one block of 164 cells (the memory, the store, the superblock, its slot, the checkpoint), and its steps in another one; beside a store on a memory in whatever company.
-/
import Derived.Test.YtinhnnnehhlceaaZMath
import Derived.Test.YtinhnnnehhlceaaPkUn
import Derived.Test.YtinhnnnehhlceaaPkMem
namespace Go.Proofs.Ytinhnnnehhlceaa
open Go.ChangeShapes Go.WideShapes Go.ChangeAt Go.RowKit Go.Joins
set_option maxRecDepth 10000
set_option linter.unusedVariables false
set_option linter.unusedSimpArgs false

/-- A memory in the block m, in whatever company: what its Flush and Fence, and super's Write, leave besides. -/
structure MemX (W : World) (m : Nat) (St : Mm → World → (Nat → Prop) → Prop) : Prop extends MemL W m St where
  flush : ∀ w G A, St A w G → A.ok 1000 → ∀ y z, Calls Try.prog 68 #[.pointer (some ⟨m, 0, none⟩), .int .i64 y, .int .i64 z] w (Done (St (A.flushZ y z)) w G (.int .i64 (A.flushE y z)))
  fence : ∀ w G A, St A w G → A.ok 1000 → ∀ y, Calls Try.prog 73 #[.pointer (some ⟨m, 0, none⟩), .int .i64 y] w (Done (St (A.fenceZ y)) w G (.int .i64 (A.fenceE y)))
  write : ∀ w G A, St A w G → A.ok 900 → ∀ core slot s, s.length = 4 → Calls Try.prog 74 #[.pointer (some ⟨m, 0, none⟩), .int .i64 core, .int .i64 slot, .agg (iv .i64 s)] w (Done (St (A.writeZ core slot s)) w G (.int .i64 (A.writeE core slot s)))
theorem Has.memX (W : World) (m : Nat) : MemX W m (fun A w G => Has W w G m A) where
  toMemL := Has.memL W m
  flush := fun w G A h hok y z => (h.flushZ hok y z).mono fun e w' ha => ha
  fence := fun w G A h hok y => (h.fenceZ hok y).mono fun e w' ha => ha
  write := fun w G A h hok core slot s hs => (h.write hok core slot s hs).mono fun e w' ha => ha

section
variable {W w : World} {m b : Nat} {St : Mm → World → (Nat → Prop) → Prop} {S : Sto} {A : Mm} {G : Nat → Prop}
theorem SHas.ofMem (h : SHas W m b St S A w G) {A' : Mm} {v : Value} {e : Ending} {w' : World} (hd : Done (St A') w (fun k => G k ∨ k = b) v e w') : Done (SHas W m b St S A') w G v e w' := by
  obtain ⟨he, h1, h2⟩ := hd
  refine ⟨he, ⟨?_, h1, h.nb, h.new⟩, fun k hg => h2 k (Or.inl hg)⟩
  have := h.rep
  unfold SRep Blk at this ⊢
  rw [h2 b (Or.inr rfl)]; exact this
theorem SHas.flush (M : MemX W m St) (h : SHas W m b St S A w G) (hok : A.ok 1000) (y z : Int) :
    Calls Try.prog 68 #[.pointer (some ⟨m, 0, none⟩), .int .i64 y, .int .i64 z] w (Done (SHas W m b St S (A.flushZ y z)) w G (.int .i64 (A.flushE y z))) :=
  (M.flush w _ A h.st hok y z).mono fun e w' hd => h.ofMem hd
theorem SHas.fence (M : MemX W m St) (h : SHas W m b St S A w G) (hok : A.ok 1000) (y : Int) :
    Calls Try.prog 73 #[.pointer (some ⟨m, 0, none⟩), .int .i64 y] w (Done (SHas W m b St S (A.fenceZ y)) w G (.int .i64 (A.fenceE y))) :=
  (M.fence w _ A h.st hok y).mono fun e w' hd => h.ofMem hd
theorem SHas.write (M : MemX W m St) (h : SHas W m b St S A w G) (hok : A.ok 900) (core slot : Int) (s : List Int) (hs : s.length = 4) :
    Calls Try.prog 74 #[.pointer (some ⟨m, 0, none⟩), .int .i64 core, .int .i64 slot, .agg (iv .i64 s)] w (Done (SHas W m b St S (A.writeZ core slot s)) w G (.int .i64 (A.writeE core slot s))) :=
  (M.write w _ A h.st hok core slot s hs).mono fun e w' hd => h.ofMem hd
end

/-! ### the steps' row -/
/-- The function that a step of a kind does. -/
def fnS (k : Nat) : FuncId := if k = 1 then 50 else if k = 2 then 52 else if k = 3 then 53 else if k = 4 then 54 else 55
def fnV (k : Nat) : Value := .func (.func (fnS k)) #[] #[]
def spV (p : Nat × Int) : List Value := [fnV p.1, .int .i64 p.2]
def spsV (l : List (Nat × Int)) : List Value := l.flatMap spV
theorem spsV_len (l : List (Nat × Int)) : (spsV l).length = 2 * l.length := by
  induction l with
  | nil => rfl
  | cons p r ih => show (spV p ++ spsV r).length = _; rw [List.length_append, ih]; simp [spV]; omega
theorem spsV_app (l r : List (Nat × Int)) : spsV (l ++ r) = spsV l ++ spsV r := by unfold spsV; rw [List.flatMap_append]
/-- Steps behind a slice: none, or in a block, from some place on. -/
def StepRow (w : World) (v : Value) (l : List (Nat × Int)) : Prop :=
  (l = [] ∧ ∃ a c, v = .slice a 0 c) ∨ ∃ g o c, v = .slice (some ⟨g, o, none⟩) l.length c ∧ l.length ≤ c ∧ w.rangeAt g o (spsV l)
theorem StepRow.same {w w' : World} {v : Value} {l : List (Nat × Int)} (h : StepRow w v l) (hs : ∀ k, v.ownBlock = some k → w'.heap[k]? = w.heap[k]?) : StepRow w' v l := by
  rcases h with h | ⟨g, o, c, rfl, h1, h3⟩
  · exact Or.inl h
  · refine Or.inr ⟨g, o, c, rfl, h1, fun j u hj => ?_⟩
    have := h3 j u hj
    unfold World.cell? at this ⊢
    rw [hs g rfl]; exact this
theorem StepRow.len {w : World} {v : Value} {l : List (Nat × Int)} (h : StepRow w v l) : ∃ a c, v = .slice a l.length c := by
  rcases h with ⟨rfl, a, c, rfl⟩ | ⟨g, o, c, rfl, -⟩
  · exact ⟨a, c, rfl⟩
  · exact ⟨_, c, rfl⟩
/-- The first step. -/
theorem StepRow.first {w : World} {v : Value} {p : Nat × Int} {r : List (Nat × Int)} (h : StepRow w v (p :: r)) :
    ∃ g o c, v = .slice (some ⟨g, o, none⟩) (r.length + 1) c ∧ r.length + 1 ≤ c ∧ w.rangeAt g o (spV p) ∧ w.rangeAt g (o + 2) (spsV r) := by
  rcases h with ⟨h, -⟩ | ⟨g, o, c, rfl, h1, h3⟩
  · cases h
  · refine ⟨g, o, c, rfl, h1, fun j u hj => h3 j u ?_, fun j u hj => ?_⟩
    · show (spV p ++ spsV r)[j]? = _
      rw [List.getElem?_append_left (by
        rcases Nat.lt_or_ge j (spV p).length with h' | h'
        · exact h'
        · rw [List.getElem?_eq_none h'] at hj; cases hj)]
      exact hj
    · rw [show o + 2 + j = o + (2 + j) by omega]
      refine h3 (2 + j) u ?_
      show (spV p ++ spsV r)[2 + j]? = _
      rw [List.getElem?_append_right (by simp [spV])]
      have e : (2 + j) - (spV p).length = j := by simp [spV]
      rw [e]; exact hj

/-! ### the worker's block -/
def wkF (m b : Nat) (K : Wk) (sl : Value) (i : Nat) : Value :=
  if i = 0 then .pointer (some ⟨m, 0, none⟩) else if i = 1 then .pointer (some ⟨b, 0, none⟩) else if i < 6 then .int .i64 (K.b.getD (i - 2) 0) else if i = 6 then .int .i64 K.sl
  else if i = 7 then .int .i64 K.q else if i < 155 then .int .i64 (fl3 K.k (i - 8)) else if i < 163 then .int .i64 (K.d (i - 155)) else sl
def WRepZ (m b : Nat) (K : Wk) (sl : Value) (w : World) (x : Nat) : Prop := Blk w x 164 85 (wkF m b K sl)
theorem wkF_b (m b : Nat) (K : Wk) (sl : Value) (j : Nat) (h : j < 4) : wkF m b K sl (2 + j) = .int .i64 (K.b.getD j 0) := by
  unfold wkF; rw [if_neg (by omega), if_neg (by omega), if_pos (by omega), show 2 + j - 2 = j by omega]
theorem wkF_k (m b : Nat) (K : Wk) (sl : Value) (j : Nat) (h : j < 147) : wkF m b K sl (8 + j) = .int .i64 (fl3 K.k j) := by
  unfold wkF; rw [if_neg (by omega), if_neg (by omega), if_neg (by omega), if_neg (by omega), if_neg (by omega), if_pos (by omega), show 8 + j - 8 = j by omega]
theorem wkF_d (m b : Nat) (K : Wk) (sl : Value) (j : Nat) (h : j < 8) : wkF m b K sl (155 + j) = .int .i64 (K.d j) := by
  unfold wkF; rw [if_neg (by omega), if_neg (by omega), if_neg (by omega), if_neg (by omega), if_neg (by omega), if_neg (by omega), if_pos (by omega), show 155 + j - 155 = j by omega]
section
variable {m b x : Nat} {K : Wk} {sl : Value} {w : World}
theorem WRepZ.pm (h : WRepZ m b K sl w x) : w.cell? ⟨x, 0, none⟩ = some (.pointer (some ⟨m, 0, none⟩)) := Blk.cell h 0 (by decide)
theorem WRepZ.pb (h : WRepZ m b K sl w x) : w.cell? ⟨x, 1, none⟩ = some (.pointer (some ⟨b, 0, none⟩)) := Blk.cell h 1 (by decide)
theorem WRepZ.cg (h : WRepZ m b K sl w x) : w.cell? ⟨x, 2, none⟩ = some (.int .i64 K.gen) := Blk.cell h 2 (by decide)
theorem WRepZ.c3 (h : WRepZ m b K sl w x) : w.cell? ⟨x, 5, none⟩ = some (.int .i64 (K.b.getD 3 0)) := Blk.cell h 5 (by decide)
theorem WRepZ.csl (h : WRepZ m b K sl w x) : w.cell? ⟨x, 6, none⟩ = some (.int .i64 K.sl) := Blk.cell h 6 (by decide)
theorem WRepZ.cq (h : WRepZ m b K sl w x) : w.cell? ⟨x, 7, none⟩ = some (.int .i64 K.q) := Blk.cell h 7 (by decide)
theorem WRepZ.cs (h : WRepZ m b K sl w x) : w.cell? ⟨x, 163, none⟩ = some sl := Blk.cell h 163 (by decide)
theorem WRepZ.cd (h : WRepZ m b K sl w x) (i : Nat) (hi : i < 8) : w.cell? ⟨x, 155 + i, none⟩ = some (.int .i64 (K.d i)) := by rw [Blk.cell h (155 + i) (by omega), wkF_d _ _ _ _ _ hi]
theorem WRepZ.fr (h : WRepZ m b K sl w x) (i : Nat) : w.frozen? ⟨x, i, none⟩ = false := Blk.free h i
theorem WRepZ.rb (h : WRepZ m b K sl w x) (hb : K.b.length = 4) : w.rangeAt x 2 (iv .i64 K.b).toList := by
  have e : (iv .i64 K.b).toList = (List.range 4).map fun j => Value.int .i64 (K.b.getD j 0) := by
    have := hb
    match hK : K.b, this with
    | [a, c, d, f], _ => rfl
  rw [e]
  exact Blk.range h 2 4 (by decide) _ fun j hj => wkF_b m b K sl j hj
theorem WRepZ.rk (h : WRepZ m b K sl w x) : w.rangeAt x 8 (tabV K.k).toList := by rw [tabV_list]; exact Blk.range h 8 147 (by decide) _ fun j hj => wkF_k m b K sl j hj
theorem WRepZ.rd (h : WRepZ m b K sl w x) : w.rangeAt x 155 (dirV K.d).toList := by rw [dirV_list]; exact Blk.range h 155 8 (by decide) _ fun j hj => wkF_d m b K sl j hj
/-- The line of a leaf, or of the root, is set. -/
theorem WRepZ.putD (h : WRepZ m b K sl w x) (i : Nat) (hi : i < 8) (v : Int) : WRepZ m b ⟨K.b, K.sl, K.q, K.k, upd K.d i v, K.l⟩ sl (w.setCell ⟨x, 155 + i, none⟩ (.int .i64 v)) x :=
  (Blk.set h (155 + i) (.int .i64 v)).ext fun j hj => by
    by_cases e : j = 155 + i
    · subst e
      rw [upd_same, wkF_d _ _ _ _ _ hi]
      show _ = Value.int _ (upd K.d i v i)
      rw [upd_same]
    · rw [upd_other _ _ _ _ e]
      unfold wkF
      by_cases h1 : j < 155 ∨ 163 ≤ j
      · repeat' split
        all_goals first | rfl | omega
      · have h2 : ¬ j < 155 := fun q => h1 (Or.inl q)
        have h3 : j < 163 := by omega
        rw [if_neg (by omega), if_neg (by omega), if_neg (by omega), if_neg (by omega), if_neg (by omega), if_neg h2, if_pos h3, if_neg (by omega), if_neg (by omega), if_neg (by omega), if_neg (by omega), if_neg (by omega), if_neg h2, if_pos h3]
        show _ = Value.int _ (upd K.d i v (j - 155))
        rw [upd_other _ _ _ _ (by omega)]
/-- The steps that are left are others. -/
theorem WRepZ.putS (h : WRepZ m b K sl w x) (r : List (Nat × Int)) (sl' : Value) : WRepZ m b (K.less r) sl' (w.setCell ⟨x, 163, none⟩ sl') x :=
  (Blk.set h 163 sl').ext fun j hj => by
    by_cases e : j = 163
    · subst e; rw [upd_same]; rfl
    · rw [upd_other _ _ _ _ e]
      unfold wkF
      repeat' split
      all_goals first | rfl | omega
/-- Another superblock counts, in its slot. -/
theorem WRepZ.putB (h : WRepZ m b K sl w x) (s : List Int) (hs : s.length = 4) (z : Int) : WRepZ m b ⟨s, z, K.q, K.k, K.d, K.l⟩ sl ((w.setCells x 2 (iv .i64 s).toList).setCell ⟨x, 6, none⟩ (.int .i64 z)) x := by
  have hl : (iv .i64 s).toList.length = 4 := by rw [Array.length_toList, iv_size, hs]
  refine (Blk.set (Blk.sets (iv .i64 s).toList w _ 2 h) 6 (.int .i64 z)).ext fun j hj => ?_
  by_cases e : j = 6
  · subst e; rw [upd_same]; rfl
  · rw [upd_other _ _ _ _ e]
    by_cases h4 : 2 ≤ j ∧ j < 6
    · rw [if_pos (by omega)]
      obtain ⟨i, rfl⟩ : ∃ i, j = 2 + i := ⟨j - 2, by omega⟩
      rw [wkF_b _ _ _ _ _ (by omega), show 2 + i - 2 = i by omega]
      match s, hs with
      | [c0, c1, c2, c3], _ =>
        match i, (show i < 4 by omega) with
        | 0, _ => rfl
        | 1, _ => rfl
        | 2, _ => rfl
        | 3, _ => rfl
    · rw [if_neg (by omega)]
      unfold wkF
      repeat' split
      all_goals first | rfl | omega
end
/-- A checkpoint's cells. -/
def ckF (q : Int) (k : Nat → En) (d : Nat → Int) (sl : Value) (i : Nat) : Value := if i = 0 then .int .i64 q else if i < 148 then .int .i64 (fl3 k (i - 1)) else if i < 156 then .int .i64 (d (i - 148)) else sl
def ckV (q : Int) (k : Nat → En) (d : Nat → Int) (sl : Value) : Array Value := tab 157 (ckF q k d sl)
theorem ckV_size (q : Int) (k : Nat → En) (d : Nat → Int) (sl : Value) : (ckV q k d sl).size = 157 := tab_size _ _
theorem WRepZ.putC {m b x : Nat} {K : Wk} {sl : Value} {w : World} (h : WRepZ m b K sl w x) (q : Int) (k : Nat → En) (d : Nat → Int) (sl' : Value) (l : List (Nat × Int)) : WRepZ m b ⟨K.b, K.sl, q, k, d, l⟩ sl' (w.setCells x 7 (ckV q k d sl').toList) x := by
  have hl : (ckV q k d sl').toList.length = 157 := by rw [Array.length_toList, ckV_size]
  refine (Blk.sets (ckV q k d sl').toList w _ 7 h).ext fun j hj => ?_
  by_cases h7 : 7 ≤ j
  · rw [if_pos (by omega)]
    have hg : (ckV q k d sl').toList.getD (j - 7) undef = ckF q k d sl' (j - 7) := by
      rw [List.getD_eq_getElem?_getD, Array.getElem?_toList, show (ckV q k d sl')[j - 7]? = some (ckF q k d sl' (j - 7)) from tab_get _ _ _ (by omega)]; rfl
    rw [hg]
    unfold ckF wkF
    rw [if_neg (show ¬ j = 0 by omega), if_neg (show ¬ j = 1 by omega), if_neg (show ¬ j < 6 by omega), if_neg (show ¬ j = 6 by omega)]
    by_cases e7 : j = 7
    · rw [if_pos (by omega), if_pos e7]
    · rw [if_neg (show ¬ j - 7 = 0 by omega), if_neg e7]
      by_cases e8 : j < 155
      · rw [if_pos (by omega), if_pos e8, show j - 7 - 1 = j - 8 by omega]
      · rw [if_neg (by omega), if_neg e8]
        by_cases e9 : j < 163
        · rw [if_pos (by omega), if_pos e9, show j - 7 - 148 = j - 155 by omega]
        · rw [if_neg (by omega), if_neg e9]
  · rw [if_neg (by omega)]
    unfold wkF
    repeat' split
    all_goals first | rfl | omega

/-! ### a worker beside its store -/
structure WH (W : World) (m b x : Nat) (St : Mm → World → (Nat → Prop) → Prop) (S : Sto) (A : Mm) (K : Wk) (sl : Value) (w : World) (G : Nat → Prop) : Prop where
  rep : WRepZ m b K sl w x
  row : StepRow w sl K.l
  st : SHas W m b St S A w (fun k => G k ∨ k = x ∨ sl.ownBlock = some k)
  nx : ¬ G x
  newx : W.heap.size ≤ x
  ns : ∀ k, sl.ownBlock = some k → ¬ G k ∧ W.heap.size ≤ k ∧ k ≠ x
def WHas (W : World) (m b x : Nat) (St : Mm → World → (Nat → Prop) → Prop) (S : Sto) (A : Mm) (K : Wk) (w : World) (G : Nat → Prop) : Prop := ∃ sl, WH W m b x St S A K sl w G
section
variable {W w w' : World} {m b x : Nat} {St : Mm → World → (Nat → Prop) → Prop} {S : Sto} {A : Mm} {K : Wk} {sl : Value} {G : Nat → Prop}
theorem WH.lt (h : WH W m b x St S A K sl w G) : x < w.heap.size := Blk.lt h.rep
theorem WH.slt (M : MemL W m St) (h : WH W m b x St S A K sl w G) : ∀ k, sl.ownBlock = some k → k < w.heap.size := fun k hk => (SHas.stay M b S A).lt _ _ h.st k (Or.inr (Or.inr hk))
theorem WH.stay (M : MemL W m St) (b x : Nat) (S : Sto) (A : Mm) (K : Wk) (sl : Value) : Stay W (WH W m b x St S A K sl) where
  al := fun w G o h => ⟨Blk.alloc h.rep o, h.row.same (fun k hk => Below.heap_alloc _ _ _ (h.slt M k hk)), (SHas.stay M b S A).ls _ _ _ ((SHas.stay M b S A).al _ _ o h.st) (fun k hk => by
    rcases hk with (hk | hk) | hk | hk
    · exact Or.inl (Or.inl hk)
    · exact Or.inr hk
    · exact Or.inl (Or.inr (Or.inl hk))
    · exact Or.inl (Or.inr (Or.inr hk))), fun hk => by
    rcases hk with hk | hk
    · exact h.nx hk
    · have := h.lt; omega, h.newx, fun k hk => ⟨fun hg => by
    rcases hg with hg | hg
    · exact (h.ns k hk).1 hg
    · have := h.slt M k hk; omega, (h.ns k hk).2⟩⟩
  ls := fun w G G' h hs => ⟨h.rep, h.row, (SHas.stay M b S A).ls _ _ _ h.st (fun k hk => hk.imp (hs k) id), fun hk => h.nx (hs _ hk), h.newx, fun k hk => ⟨fun hg => (h.ns k hk).1 (hs _ hg), (h.ns k hk).2⟩⟩
  bl := fun w w' G h hk => ⟨Blk.keeps h.rep hk id, h.row.same (fun k e => hk.block k (h.slt M k e) id), (SHas.stay M b S A).bl _ _ _ h.st hk, h.nx, h.newx, h.ns⟩
  ow := fun w w' G L h hL hW hk => ⟨Blk.keeps h.rep hk (fun e => h.nx (e ▸ hL)), h.row.same (fun k e => hk.block k (h.slt M k e) (fun q => (h.ns k e).1 (q ▸ hL))), (SHas.stay M b S A).ow _ _ _ L h.st (Or.inl hL) hW hk, h.nx, h.newx, h.ns⟩
  lt := fun w G h k hk => (SHas.stay M b S A).lt _ _ h.st k (Or.inl hk)
  sz := fun w G h => (SHas.stay M b S A).sz _ _ h.st
theorem WHas.stay (M : MemL W m St) (b x : Nat) (S : Sto) (A : Mm) (K : Wk) : Stay W (WHas W m b x St S A K) where
  al := fun w G o ⟨sl, h⟩ => ⟨sl, (WH.stay M b x S A K sl).al _ _ o h⟩
  ls := fun w G G' ⟨sl, h⟩ hs => ⟨sl, (WH.stay M b x S A K sl).ls _ _ _ h hs⟩
  bl := fun w w' G ⟨sl, h⟩ hk => ⟨sl, (WH.stay M b x S A K sl).bl _ _ _ h hk⟩
  ow := fun w w' G L ⟨sl, h⟩ hL hW hk => ⟨sl, (WH.stay M b x S A K sl).ow _ _ _ L h hL hW hk⟩
  lt := fun w G ⟨sl, h⟩ => (WH.stay M b x S A K sl).lt _ _ h
  sz := fun w G ⟨sl, h⟩ => (WH.stay M b x S A K sl).sz _ _ h
/-- A call of the store, or of the memory, turns the store and the memory alone. -/
theorem WH.lift (h : WH W m b x St S A K sl w G) {S' : Sto} {A' : Mm} {v : Value} {e : Ending} (hd : Done (SHas W m b St S' A') w (fun k => G k ∨ k = x ∨ sl.ownBlock = some k) v e w') : Done (WH W m b x St S' A' K sl) w G v e w' := by
  obtain ⟨he, h1, h2⟩ := hd
  refine ⟨he, ⟨?_, h.row.same (fun k hk => h2 k (Or.inr (Or.inr hk))), h1, h.nx, h.newx, h.ns⟩, fun k hg => h2 k (Or.inl hg)⟩
  have := h.rep
  unfold WRepZ Blk at this ⊢
  rw [h2 x (Or.inr (Or.inl rfl))]; exact this
end

end Go.Proofs.Ytinhnnnehhlceaa
