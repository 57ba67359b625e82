import Derived.Test.YtjmgmbigbkllgaaPkNvm
import Derived.Laws.AppendOwnNone
import Derived.Test.YtjmgmbigbkllgaaNLines

/-
  How the document's memory (steadfastref03.Memory) lies in the program's memory: its own block, its lines, its row of rows of stores, a block for each line that has one. The same Mm says what it does: the cores that have flushed a store are those whose count is above its place.
-/
namespace Go.Proofs.Ytjmgmbigbkllgaa
open Go.ChangeShapes Go.WideShapes Go.ChangeAt Go.RowKit Go.Joins
set_option maxRecDepth 10000
set_option linter.unusedVariables false
set_option linter.unusedSimpArgs false

/-- A store as the document keeps it: ten cells. -/
def doneAt (l : Ln) (j c : Nat) : Value := if c = 0 then .int .i64 ((l.t.getD j (0, 0)).1 : Int) else if c = 1 then .int .u64 (l.t.getD j (0, 0)).2 else .bool (decide (j < l.f (c - 2)))
def slot0 (ad : Option Nat) : Option Addr := ad.map fun g => ⟨g, 0, none⟩
def RRow (w : World) (l : Ln) (ad : Option Nat) (cap : Nat) : Prop :=
  (ad = none ∧ cap = 0 ∧ l.t = []) ∨ ∃ g N f, ad = some g ∧ Blk w g N 146 f ∧ l.t.length * 10 ≤ N ∧ l.t.length ≤ cap ∧ cap ≤ 9223372036854775807 ∧ ∀ j c, j < l.t.length → c < 10 → f (j * 10 + c) = doneAt l j c
theorem RRow.keeps {F : Nat → Prop} {w w' : World} {l : Ln} {ad : Option Nat} {cap : Nat} (h : RRow w l ad cap) (hk : Keeps F w w') (hc : ∀ g, ad = some g → ¬ F g) : RRow w' l ad cap := by
  rcases h with h | ⟨g, N, f, h1, h2, h3⟩
  · exact Or.inl h
  · exact Or.inr ⟨g, N, f, h1, h2.keeps hk (hc g h1), h3⟩
theorem RRow.lt {w : World} {l : Ln} {ad : Option Nat} {cap : Nat} (h : RRow w l ad cap) : ∀ g, ad = some g → g < w.heap.size := fun g hg => by
  rcases h with ⟨h, _⟩ | ⟨g', N, f, h1, h2, _⟩
  · rw [h] at hg; simp at hg
  · rw [h1] at hg; cases hg; exact h2.lt

def rhead (A : Mm) (gs cs gl : Nat) : Array Value := #[.slice (some ⟨gs, 0, none⟩) A.n cs, .slice (some ⟨gl, 0, none⟩) A.n A.n, .bool (!A.on), .int .i64 A.fuse, .int .i64 (A.steps : Int)]
def rrowF (A : Mm) (ads : Nat → Option Nat) (caps : Nat → Nat) : Nat → Value := fun i => .slice (slot0 (ads i)) (A.l i).t.length (caps i)
structure RRep (w : World) (F : Nat → Prop) (b : Nat) (A : Mm) (gs cs gl : Nat) (ads : Nat → Option Nat) (caps : Nat → Nat) : Prop where
  hd : w.heap[b]? = some (.cells (rhead A gs cs gl) 99 (0, 0))
  sb : ∃ N f, Blk w gs N 56 f ∧ A.n * 8 ≤ N ∧ A.n ≤ cs ∧ ∀ i, i < A.n * 8 → f i = .int .u64 ((A.l (i / 8)).s (i % 8))
  lb : Blk w gl A.n 142 (rrowF A ads caps)
  row : ∀ i, i < A.n → RRow w (A.l i) (ads i) (caps i)
  d1 : b ≠ gs
  d2 : b ≠ gl
  d3 : gs ≠ gl
  ap : ∀ i, i < A.n → ∀ g, ads i = some g → g ≠ b ∧ g ≠ gs ∧ g ≠ gl ∧ F g
  dj : ∀ i j, i < A.n → j < A.n → i ≠ j → ∀ g, ads i = some g → ads j ≠ some g
  fb : F b
  fs : F gs
  fl : F gl
  lt : ∀ k, F k → k < w.heap.size
def RWent (F : Nat → Prop) (w : World) (b gs cs gl : Nat) (A' : Mm) (v : Value) (e : Ending) (w' : World) : Prop :=
  e = .returned v ∧ ∃ F' ads caps, RRep w' F' b A' gs cs gl ads caps ∧ Keeps F w w' ∧ Grew F w F'

theorem RRep.keeps {w w' : World} {F G : Nat → Prop} {b gs cs gl : Nat} {A : Mm} {ads : Nat → Option Nat} {caps : Nat → Nat} (h : RRep w F b A gs cs gl ads caps) (hK : Keeps G w w') (hG : ∀ x, F x → ¬ G x) : RRep w' F b A gs cs gl ads caps := by
  obtain ⟨N, f, h1, h2⟩ := h.sb
  exact ⟨by rw [hK.block b (h.lt b h.fb) (hG b h.fb)]; exact h.hd, ⟨N, f, h1.keeps hK (hG gs h.fs), h2⟩, h.lb.keeps hK (hG gl h.fl), fun i hi => (h.row i hi).keeps hK fun g hg => hG g (h.ap i hi g hg).2.2.2, h.d1, h.d2, h.d3, h.ap, h.dj, h.fb, h.fs, h.fl, fun k hk => Nat.lt_of_lt_of_le (h.lt k hk) hK.size⟩
theorem RRep.alloc {w : World} {F : Nat → Prop} {b gs cs gl : Nat} {A : Mm} {ads : Nat → Option Nat} {caps : Nat → Nat} (h : RRep w F b A gs cs gl ads caps) (o : Obj) : RRep (w.alloc o) F b A gs cs gl ads caps :=
  h.keeps (G := fun _ => False) ((Keeps.refl _ _).alloc _) fun _ _ => id
theorem RRep.drew {w : World} {F : Nat → Prop} {b gs cs gl : Nat} {A : Mm} {ads : Nat → Option Nat} {caps : Nat → Nat} (h : RRep w F b A gs cs gl ads caps) : RRep w.drew F b A gs cs gl ads caps :=
  h.keeps (G := fun _ => False) (Keeps.refl _ _).drew fun _ _ => id
theorem RRep.fresh {w : World} {F : Nat → Prop} {b gs cs gl : Nat} {A : Mm} {ads : Nat → Option Nat} {caps : Nat → Nat} (h : RRep w F b A gs cs gl ads caps) (j : Nat) : ¬ F (w.heap.size + j) := fun hf => by have := h.lt _ hf; omega

/-- Its head is another one. -/
theorem RRep.head {w w' : World} {F : Nat → Prop} {b gs cs gl : Nat} {A : Mm} {ads : Nat → Option Nat} {caps : Nat → Nat} (h : RRep w F b A gs cs gl ads caps) (hK : Keeps (· = b) w w') (on : Bool) (fuse : Int) (steps : Nat)
    (hd : w'.heap[b]? = some (.cells (rhead ⟨A.n, A.l, on, fuse, steps⟩ gs cs gl) 99 (0, 0))) : RRep w' F b ⟨A.n, A.l, on, fuse, steps⟩ gs cs gl ads caps := by
  obtain ⟨N, f, h1, h2⟩ := h.sb
  exact ⟨hd, ⟨N, f, h1.keeps hK (Ne.symm h.d1), h2⟩, h.lb.keeps hK (Ne.symm h.d2), fun i hi => (h.row i hi).keeps hK fun g hg => (h.ap i hi g hg).1, h.d1, h.d2, h.d3, h.ap, h.dj, h.fb, h.fs, h.fl, fun k hk => Nat.lt_of_lt_of_le (h.lt k hk) hK.size⟩

/-- One line is another one. -/
theorem RRep.line {w w' : World} {F G : Nat → Prop} {b gs cs gl : Nat} {A : Mm} {ads : Nat → Option Nat} {caps : Nat → Nat} (h : RRep w F b A gs cs gl ads caps) (k : Nat) (hk : k < A.n) (l' : Ln) (ad' : Option Nat) (cap' : Nat)
    (hK : Keeps G w w') (hG : ∀ x, G x → x = gs ∨ x = gl ∨ ads k = some x)
    (hsb : ∃ N f, Blk w' gs N 56 f ∧ A.n * 8 ≤ N ∧ ∀ i, i < A.n * 8 → f i = .int .u64 ((upd A.l k l' (i / 8)).s (i % 8)))
    (hlb : Blk w' gl A.n 142 (upd (rrowF A ads caps) k (.slice (slot0 ad') l'.t.length cap')))
    (hrow : RRow w' l' ad' cap') (hblk : ∀ g, ad' = some g → ads k = some g ∨ w.heap.size ≤ g) :
    RRep w' (fun x => F x ∨ ad' = some x) b ⟨A.n, upd A.l k l', A.on, A.fuse, A.steps⟩ gs cs gl (upd ads k ad') (upd caps k cap') := by
  have hb := h.lt b h.fb
  have hs := h.lt gs h.fs
  have hl := h.lt gl h.fl
  have hGb : ¬ G b := fun hg => by
    rcases hG b hg with e | e | e
    · exact h.d1 e
    · exact h.d2 e
    · exact (h.ap k hk b e).1 rfl
  obtain ⟨N, f, b1, b2, b3⟩ := hsb
  obtain ⟨_, _, _, _, hcs, _⟩ := h.sb
  refine ⟨?_, ⟨N, f, b1, b2, hcs, b3⟩, ?_, ?_, h.d1, h.d2, h.d3, ?_, ?_, Or.inl h.fb, Or.inl h.fs, Or.inl h.fl, ?_⟩
  · rw [hK.block b hb hGb]; exact h.hd
  · refine hlb.ext fun i _ => ?_
    unfold rrowF
    by_cases hi : i = k
    · subst hi; simp only [upd_same]
    · simp only [upd_other _ _ _ _ hi]
  · intro i hi
    show RRow w' (upd A.l k l' i) (upd ads k ad' i) (upd caps k cap' i)
    by_cases hik : i = k
    · subst hik; simp only [upd_same]; exact hrow
    · simp only [upd_other _ _ _ _ hik]
      exact (h.row i hi).keeps hK fun g hg hGg => by
        rcases hG g hGg with e | e | e
        · exact (h.ap i hi g hg).2.1 e
        · exact (h.ap i hi g hg).2.2.1 e
        · exact h.dj i k hi hk hik g hg e
  · intro i hi g hg
    by_cases hik : i = k
    · subst hik
      rw [upd_same] at hg
      rcases hblk g hg with h' | h'
      · exact ⟨(h.ap i hi g h').1, (h.ap i hi g h').2.1, (h.ap i hi g h').2.2.1, Or.inr hg⟩
      · exact ⟨by omega, by omega, by omega, Or.inr hg⟩
    · rw [upd_other _ _ _ _ hik] at hg
      exact ⟨(h.ap i hi g hg).1, (h.ap i hi g hg).2.1, (h.ap i hi g hg).2.2.1, Or.inl (h.ap i hi g hg).2.2.2⟩
  · intro i j hi hj hij g hg hg'
    by_cases hik : i = k
    · subst hik
      rw [upd_same] at hg
      rw [upd_other _ _ _ _ (Ne.symm hij)] at hg'
      rcases hblk g hg with h' | h'
      · exact h.dj i j hi hj hij g h' hg'
      · have := h.lt g (h.ap j hj g hg').2.2.2; omega
    · rw [upd_other _ _ _ _ hik] at hg
      by_cases hjk : j = k
      · subst hjk
        rw [upd_same] at hg'
        rcases hblk g hg' with h' | h'
        · exact h.dj i j hi hj hij g hg h'
        · have := h.lt g (h.ap i hi g hg).2.2.2; omega
      · rw [upd_other _ _ _ _ hjk] at hg'
        exact h.dj i j hi hj hij g hg hg'
  · intro x hx
    rcases hx with hx | hx
    · exact Nat.lt_of_lt_of_le (h.lt x hx) hK.size
    · exact hrow.lt x hx

/-! ### What the walk reads -/
section
variable {w : World} {F : Nat → Prop} {b gs cs gl : Nat} {A : Mm} {ads : Nat → Option Nat} {caps : Nat → Nat}
theorem RRep.c0 (h : RRep w F b A gs cs gl ads caps) : w.cell? ⟨b, 0, none⟩ = some (.slice (some ⟨gs, 0, none⟩) A.n cs) := by rw [cell_of_block h.hd]; rfl
theorem RRep.c1 (h : RRep w F b A gs cs gl ads caps) : w.cell? ⟨b, 1, none⟩ = some (.slice (some ⟨gl, 0, none⟩) A.n A.n) := by rw [cell_of_block h.hd]; rfl
theorem RRep.c2 (h : RRep w F b A gs cs gl ads caps) : w.cell? ⟨b, 2, none⟩ = some (.bool (!A.on)) := by rw [cell_of_block h.hd]; rfl
theorem RRep.c3 (h : RRep w F b A gs cs gl ads caps) : w.cell? ⟨b, 3, none⟩ = some (.int .i64 A.fuse) := by rw [cell_of_block h.hd]; rfl
theorem RRep.c4 (h : RRep w F b A gs cs gl ads caps) : w.cell? ⟨b, 4, none⟩ = some (.int .i64 (A.steps : Int)) := by rw [cell_of_block h.hd]; rfl
theorem RRep.fr (h : RRep w F b A gs cs gl ads caps) (i : Nat) : w.frozen? ⟨b, i, none⟩ = false := unfrozen_of_block h.hd i
theorem RRep.lc (h : RRep w F b A gs cs gl ads caps) (k : Nat) (hk : k < A.n) : w.cell? ⟨gl, k, none⟩ = some (.slice (slot0 (ads k)) (A.l k).t.length (caps k)) := h.lb.cell k hk
theorem RRep.sR (h : RRep w F b A gs cs gl ads caps) (k : Nat) (hk : k < A.n) : w.rangeAt gs (k * 8) (lnV (A.l k).s).toList := by
  obtain ⟨N, f, h1, h2, _, h3⟩ := h.sb
  exact h1.range (k * 8) 8 (by omega) (fun j => .int .u64 ((A.l k).s j)) fun j hj => by
    rw [h3 (k * 8 + j) (by omega), show (k * 8 + j) / 8 = k by omega, show (k * 8 + j) % 8 = j by omega]
end
theorem rhead_set {w : World} {b gs cs gl : Nat} {A : Mm} (hd : w.heap[b]? = some (.cells (rhead A gs cs gl) 99 (0, 0))) (i : Nat) (v : Value) (A' : Mm) (e : (rhead A gs cs gl).setIfInBounds i v = rhead A' gs cs gl) :
    (w.setCell ⟨b, i, none⟩ v).heap[b]? = some (.cells (rhead A' gs cs gl) 99 (0, 0)) := by rw [block_setCell hd, e]

end Go.Proofs.Ytjmgmbigbkllgaa


/-
  What the document's is, step, Fuse and has do.
-/
namespace Go.Proofs.Ytjmgmbigbkllgaa
open Go.ChangeShapes Go.WideShapes Go.ChangeAt Go.RowKit Go.Joins
set_option maxRecDepth 10000
set_option linter.unusedVariables false
set_option linter.unusedSimpArgs false

section
variable {w : World} {F : Nat → Prop} {b gs cs gl : Nat} {A : Mm} {ads : Nat → Option Nat} {caps : Nat → Nat}

end

end Go.Proofs.Ytjmgmbigbkllgaa


/-
  What the document's has tells: a line, behind its first n stores; nothing that was there turns.
-/
namespace Go.Proofs.Ytjmgmbigbkllgaa
open Go.ChangeShapes Go.WideShapes Go.ChangeAt Go.RowKit Go.Joins
set_option maxRecDepth 10000
set_option linter.unusedVariables false
set_option linter.unusedSimpArgs false

section
variable {w : World} {F : Nat → Prop} {b gs cs gl : Nat} {A : Mm} {ads : Nat → Option Nat} {caps : Nat → Nat}

/-- The cells of a store of a line. -/
theorem RRep.st (h : RRep w F b A gs cs gl ads caps) (k : Nat) (hk : k < A.n) (j : Nat) (hj : j < (A.l k).t.length) :
    ∃ g, ads k = some g ∧ w.cell? ⟨g, j * 10, none⟩ = some (.int .i64 (((A.l k).t[j]).1 : Int)) ∧ w.cell? ⟨g, j * 10 + 1, none⟩ = some (.int .u64 ((A.l k).t[j]).2) ∧ ∀ c, c < 8 → w.cell? ⟨g, j * 10 + 2 + c, none⟩ = some (.bool (decide (j < (A.l k).f c))) ∧ w.frozen? ⟨g, j * 10 + 2 + c, none⟩ = false := by
  rcases h.row k hk with ⟨_, _, h0⟩ | ⟨g, N, f, h1, h2, h3, _, _, h4⟩
  · rw [h0] at hj; simp at hj
  · have hg : (A.l k).t[j]?.getD (0, 0) = (A.l k).t[j] := by rw [List.getElem?_eq_getElem hj]; rfl
    refine ⟨g, h1, ?_, ?_, fun c hc => ⟨?_, h2.free _⟩⟩
    · rw [h2.cell _ (by omega)]; have := h4 j 0 hj (by omega); rw [Nat.add_zero] at this; rw [this]; simp [doneAt, List.getD_eq_getElem?_getD, hg]
    · rw [h2.cell _ (by omega), h4 j 1 hj (by omega)]; simp [doneAt, List.getD_eq_getElem?_getD, hg]
    · rw [h2.cell _ (by omega), Nat.add_assoc, h4 j (2 + c) hj (by omega)]; simp [doneAt, show ¬ (2 + c = 0) by omega, show ¬ (2 + c = 1) by omega]

end

end Go.Proofs.Ytjmgmbigbkllgaa


/-
  What the document's sure does: a line's first n stores are sure.
-/
namespace Go.Proofs.Ytjmgmbigbkllgaa
open Go.ChangeShapes Go.WideShapes Go.ChangeAt Go.RowKit Go.Joins
set_option maxRecDepth 10000
set_option linter.unusedVariables false
set_option linter.unusedSimpArgs false

/-- append onto a slice of the call's own, from a slice that may be nil. -/
theorem wp_append_src {P : Program} {w : World} {o : Oper} {a : Act} {K : Act → World → Prop} {Q : Exit → Act → World → Prop} (s x : Operand) (t : TypeId)
    (ho : o.op = .call { callee := .builtin .append, args := #[s, x], argTypes := #[t, t] })
    (base : Nat) (e : TypeId) (i : TypeInfo) (z : Value) (size bytes : Nat) (ht : P.underlying t = some (.slice e)) (hi : P.info? e = some i) (hz : i.zero = some z)
    (hsize : i.size = size) (hby : i.bytes = bytes) (hzs : z.cells.size = size) (hsz : 0 < size)
    (v : Value) (n : Nat) (xs : List Value) (hs : a.eval s = v) (hown : w.ownsRow base e size v n xs)
    (ao : Option Addr) (m c : Nat) (news : List Value) (hx : a.eval x = .slice ao m c) (hno : ao = none → m = 0 ∧ c = 0) (hl : news.length = m * size) (hnews : ∀ ad, ao = some ad → ∀ j u, news[j]? = some u → w.cell? (ad.add j) = some u) (h1 : ∀ u ∈ news, u.oneCell' = true)
    (h63 : n + m ≤ maxLen) (hbytes : (n + m) * bytes ≤ 140737488355328) (hbase : base ≤ w.heap.size)
    (h : ∀ v' w', w'.ownsRow base e size v' (n + m) (xs ++ news) → w.grownBy w' v.ownBlock → (v ≠ .slice none 0 0 → v' ≠ .slice none 0 0) → K (a.put o.dst v') w') : o.wp P a w K Q := by
  cases ao with
  | some ad => exact wp_append_own w s x t ho base e i z size bytes ht hi hz hsize hby hzs hsz v n xs hs hown ad m c news hx hl (hnews ad rfl) h1 h63 hbytes hbase (fun v' w' h2 h3 h4 => h v' w' h2 h3 (fun hv hv' => hv (h4.1 hv').1))
  | none =>
    obtain ⟨rfl, rfl⟩ := hno rfl
    obtain rfl : news = [] := List.eq_nil_of_length_eq_zero (by simpa using hl)
    have hrun := run_append_owned_none (P := P) (w := w) base t o.type e i size ht hi v n xs hown
    unfold Oper.wp
    simp [execOp, ho, resolve, invoke, builtin, hs, hx, hrun, Result.andThen]
    exact h v w (by simpa using hown) ⟨rfl, rfl, rfl, Nat.le_refl _, fun _ _ _ => rfl⟩ id

def doneV (l : Ln) : List Value := (List.range (l.t.length * 10)).map fun i => doneAt l (i / 10) (i % 10)
theorem doneV_len (l : Ln) : (doneV l).length = l.t.length * 10 := by simp [doneV]
theorem doneAt_one (l : Ln) (j c : Nat) : (doneAt l j c).oneCell' = true := by
  unfold doneAt
  split
  · rfl
  · split <;> rfl
theorem doneV_one (l : Ln) : ∀ u ∈ doneV l, u.oneCell' = true := by
  intro u hu
  simp only [doneV, List.mem_map] at hu
  obtain ⟨i, _, rfl⟩ := hu; exact doneAt_one _ _ _
theorem doneAt_settle (l : Ln) (n j c : Nat) : doneAt (l.settle n) j c = doneAt l (n + j) c := by
  unfold doneAt Ln.settle
  simp only [List.getD_eq_getElem?_getD, List.getElem?_drop]
  by_cases h0 : c = 0
  · simp [h0]
  · by_cases h1 : c = 1
    · simp [h1]
    · simp only [h0, h1, if_false]
      rw [show decide (j < l.f (c - 2) - n) = decide (n + j < l.f (c - 2)) from decide_eq_decide.2 (by omega)]
theorem info_done : (Try.prog.info? 146).map (fun i => (i.zero, i.size, i.bytes)) = some (some (.agg #[.int .i64 0, .int .u64 0, .bool false, .bool false, .bool false, .bool false, .bool false, .bool false, .bool false, .bool false]), 10, 24) := by kernel_rfl
/-- A row of stores that was just made. -/
theorem rrow_new {w : World} {base : Nat} {v : Value} {l : Ln} (h : w.ownsRow base 146 10 v l.t.length (doneV l)) (hv : v ≠ .slice none 0 0) :
    ∃ g cap, v = .slice (some ⟨g, 0, none⟩) l.t.length cap ∧ base ≤ g ∧ RRow w l (some g) cap := by
  rcases h.2 with ⟨rfl, _⟩ | ⟨g, cap, cur, rfl, hb, hg, hnc, hcm, hcs, htake⟩
  · exact absurd rfl hv
  · have hcur : cur = tab cur.size (fun i => cur.getD i undef) := by
      apply Array.ext_getElem?
      intro i
      by_cases hi : i < cur.size
      · rw [tab_get _ _ _ hi]; simp [Array.getD, hi]
      · rw [tab_none _ _ _ (by omega), Array.getElem?_eq_none (by omega)]
    refine ⟨g, cap, rfl, hb, Or.inr ⟨g, cur.size, fun i => cur.getD i undef, rfl, ?_, by omega, hnc, by unfold maxLen at hcm; exact hcm, fun j c hj hc => ?_⟩⟩
    · refine Blk.of_tab ?_; rw [← hcur]; exact hg
    · have hlt : j * 10 + c < l.t.length * 10 := by omega
      have h1 := h.cellAt (j * 10 + c) hlt
      rw [cell_of_block hg] at h1
      have h2 : (doneV l)[j * 10 + c]? = some (doneAt l j c) := by
        simp only [doneV, List.getElem?_map, List.getElem?_range hlt, Option.map_some, show (j * 10 + c) / 10 = j by omega, show (j * 10 + c) % 10 = c by omega]
      rw [h2] at h1
      show cur.getD (j * 10 + c) undef = _
      rw [Array.getD_eq_getD_getElem?, h1]; rfl

/-- The cells of a line's stores, behind the first n. -/
theorem rrow_cells {w : World} {l : Ln} {g cap : Nat} (h : RRow w l (some g) cap) (n : Nat) (hn : n ≤ l.t.length) :
    ∀ j u, (doneV (l.settle n))[j]? = some u → w.cell? ⟨g, n * 10 + j, none⟩ = some u := by
  intro j u hj
  have hlen : (l.settle n).t.length = l.t.length - n := by simp [Ln.settle]
  have hjl : j < (l.t.length - n) * 10 := by
    rcases Nat.lt_or_ge j ((l.t.length - n) * 10) with h | h
    · exact h
    · rw [List.getElem?_eq_none (by rw [doneV_len, hlen]; exact h)] at hj; simp at hj
  rcases h with ⟨h0, _⟩ | ⟨g', N, f, h1, h2, h3, _, _, h4⟩
  · simp at h0
  · cases h1
    rw [h2.cell _ (by omega), show n * 10 + j = (n + j / 10) * 10 + j % 10 by omega, h4 (n + j / 10) (j % 10) (by omega) (by omega), ← doneAt_settle]
    simp only [doneV, hlen, List.getElem?_map, List.getElem?_range hjl, Option.map_some] at hj
    exact hj

section
variable {w : World} {F : Nat → Prop} {b gs cs gl : Nat} {A : Mm} {ads : Nat → Option Nat} {caps : Nat → Nat}

/-- Behind the line: the row of its stores is made anew. -/
theorem rsure_end {w3 w4 : World} (h : RRep w F b A gs cs gl ads caps) (k n : Nat) (hk : k < A.n) (hn : n ≤ (A.l k).t.length) (hK3 : Keeps (· = gs) w w3)
    (hsb : ∃ N f, Blk w3 gs N 56 f ∧ A.n * 8 ≤ N ∧ ∀ i, i < A.n * 8 → f i = .int .u64 ((upd A.l k ((A.l k).settle n) (i / 8)).s (i % 8)))
    (hg4 : Keeps (fun _ => False) w3 w4) (g' cap' : Nat) (hbase : w3.heap.size ≤ g') (hrow : RRow w4 ((A.l k).settle n) (some g') cap') :
    RWent F w b gs cs gl ⟨A.n, upd A.l k ((A.l k).settle n), A.on, A.fuse, A.steps⟩ (.tuple #[]) (.returned (.tuple #[])) (w4.setCell ⟨gl, k, none⟩ (.slice (some ⟨g', 0, none⟩) ((A.l k).t.length - n) cap')) := by
  have hK4 : Keeps (fun x => x = gs ∨ x = gl) w (w4.setCell ⟨gl, k, none⟩ (.slice (some ⟨g', 0, none⟩) ((A.l k).t.length - n) cap')) :=
    (Keeps.setCell (F := fun x => x = gs ∨ x = gl) (p := ⟨gl, k, none⟩) ((hK3.mono fun _ _ e => Or.inl e).trans' (hg4.mono fun _ _ f => f.elim)) (Or.inr rfl) _)
  have hgl : gl < w3.heap.size := Nat.lt_of_lt_of_le (h.lt gl h.fl) hK3.size
  have hgs : gs < w3.heap.size := Nat.lt_of_lt_of_le (h.lt gs h.fs) hK3.size
  have hl4 : Blk w4 gl A.n 142 (rrowF A ads caps) := (h.lb.keeps hK3 (Ne.symm h.d3)).keeps hg4 id
  obtain ⟨N, f, b1, b2, b3⟩ := hsb
  have hkl : Keeps (· = gl) w4 (w4.setCell ⟨gl, k, none⟩ (.slice (some ⟨g', 0, none⟩) ((A.l k).t.length - n) cap')) := Keeps.setCell (F := (· = gl)) (p := ⟨gl, k, none⟩) (Keeps.refl _ _) rfl _
  refine ⟨rfl, _, _, _, h.line k hk ((A.l k).settle n) (some g') cap' hK4 (fun x hx => hx.elim Or.inl (fun e => Or.inr (Or.inl e))) ⟨N, f, (b1.keeps hg4 id).keeps hkl h.d3, b2, b3⟩ ?_ ?_ (fun g e => ?_), hK4.mono fun x _ hx => ?_, fun x hx => ?_⟩
  · refine (hl4.set k _).ext fun i _ => ?_
    rw [show ((A.l k).settle n).t.length = (A.l k).t.length - n by simp [Ln.settle]]; rfl
  · exact hrow.keeps hkl fun g e e2 => by cases e; omega
  · cases e; exact Or.inr (Nat.le_trans hK3.size hbase)
  · rcases hx with rfl | rfl
    · exact h.fs
    · exact h.fl
  · rcases hx with hx | hx
    · exact Or.inl hx
    · cases hx; exact Or.inr (Nat.le_trans hK3.size hbase)

end

end Go.Proofs.Ytjmgmbigbkllgaa


/-
  What the document's Load, Evict and Crash do.
-/
namespace Go.Proofs.Ytjmgmbigbkllgaa
open Go.ChangeShapes Go.WideShapes Go.ChangeAt Go.RowKit Go.Joins
set_option maxRecDepth 10000
set_option linter.unusedVariables false
set_option linter.unusedSimpArgs false

section
variable {w : World} {F : Nat → Prop} {b gs cs gl : Nat} {A : Mm} {ads : Nat → Option Nat} {caps : Nat → Nat}

def RLoaded (w : World) (v : Value) (e : Ending) (w' : World) : Prop := e = .returned v ∧ Keeps (fun _ => False) w w'

/-! ### Evict -/
end

end Go.Proofs.Ytjmgmbigbkllgaa


/-
  What the document's Flush and Fence do.
-/
namespace Go.Proofs.Ytjmgmbigbkllgaa
open Go.ChangeShapes Go.WideShapes Go.ChangeAt Go.RowKit Go.Joins
set_option maxRecDepth 10000
set_option linter.unusedVariables false
set_option linter.unusedSimpArgs false

theorem step_off (A : Mm) (l : Nat → Ln) (h : A.may = false) : A.step l = A.off := by unfold Mm.step; rw [h]; rfl
theorem step_on (A : Mm) (l : Nat → Ln) (h : A.may = true) : A.step l = A.stepped l := by unfold Mm.step; rw [h]; rfl
theorem err_off (A : Mm) (h : A.may = false) : A.err = 4 := by unfold Mm.err; rw [h]; rfl
theorem err_on (A : Mm) (h : A.may = true) : A.err = 0 := by unfold Mm.err; rw [h]; rfl

def flF (f : Nat → Value) (c J : Nat) : Nat → Value := fun i => if i % 10 = 2 + c ∧ i / 10 < J then .bool true else f i

section
variable {w : World} {F : Nat → Prop} {b gs cs gl : Nat} {A : Mm} {ads : Nat → Option Nat} {caps : Nat → Nat}

/-- All stores of a line are flushed by a core. -/
theorem rflush_end {w' : World} (h : RRep w F b A gs cs gl ads caps) (k c : Nat) (hk : k < A.n) (hc : c < 8) (hK : Keeps (fun x => ads k = some x) w w')
    (hf : ∀ g N f, ads k = some g → Blk w g N 146 f → Blk w' g N 146 (flF f c (A.l k).t.length)) :
    ∃ F' ads' caps', RRep w' F' b ⟨A.n, upd A.l k ((A.l k).flush c), A.on, A.fuse, A.steps⟩ gs cs gl ads' caps' ∧ Keeps F w w' ∧ Grew F w F' := by
  obtain ⟨N, f, b1, b2, _, b3⟩ := h.sb
  refine ⟨_, _, _, h.line k hk ((A.l k).flush c) (ads k) (caps k) hK (fun x hx => Or.inr (Or.inr hx)) ⟨N, f, b1.keeps hK (fun e => (h.ap k hk _ e).2.1 rfl), b2, fun i hi => ?_⟩ ?_ ?_ (fun g hg => Or.inl hg), hK.mono fun x _ hx => (h.ap k hk x hx).2.2.2, fun x hx => Or.inl (hx.elim id fun e => (h.ap k hk x e).2.2.2)⟩
  · rw [b3 i hi]
    by_cases e : i / 8 = k
    · rw [e, upd_same]; rfl
    · rw [upd_other _ _ _ _ e]
  · refine (h.lb.keeps hK (fun e => (h.ap k hk _ e).2.2.1 rfl)).ext fun i _ => ?_
    by_cases e : i = k
    · subst e; rw [upd_same]; rfl
    · rw [upd_other _ _ _ _ e]
  · rcases h.row k hk with ⟨h1, h2, h3⟩ | ⟨g, N, f, h1, h2, h3, h4, h5, h6⟩
    · exact Or.inl ⟨h1, h2, h3⟩
    · refine Or.inr ⟨g, N, _, h1, hf g N f h1 h2, h3, h4, h5, fun j d hj hd => ?_⟩
      have hj' : j < (A.l k).t.length := hj
      unfold flF
      by_cases e : d = 2 + c
      · rw [if_pos ⟨by omega, by omega⟩, e]
        simp [doneAt, Ln.flush, show ¬ (2 + c = 0) by omega, show ¬ (2 + c = 1) by omega, upd, hj']
      · rw [if_neg (fun h => by omega), h6 j d hj' hd]
        unfold doneAt
        by_cases d0 : d = 0
        · simp [d0, Ln.flush]
        · by_cases d1 : d = 1
          · simp [d1, Ln.flush]
          · simp only [d0, d1, if_false]
            exact congrArg Value.bool (decide_eq_decide.2 (by show j < _ ↔ j < upd (A.l k).f c (A.l k).t.length (d - 2); rw [upd_other _ _ _ _ (by omega)]))

/-! ### Fence -/
theorem RRep.lines {A' : Mm} (h : RRep w F b A gs cs gl ads caps) (hn : A'.n = A.n) (h1 : A'.on = A.on) (h2 : A'.fuse = A.fuse) (h3 : A'.steps = A.steps) (hl : ∀ i, i < A.n → A'.l i = A.l i) : RRep w F b A' gs cs gl ads caps := by
  obtain ⟨N, f, b1, b2, b3, b4⟩ := h.sb
  refine ⟨?_, ⟨N, f, b1, by rw [hn]; exact b2, by rw [hn]; exact b3, fun i hi => ?_⟩, ?_, ?_, h.d1, h.d2, h.d3, ?_, ?_, h.fb, h.fs, h.fl, h.lt⟩
  · have : rhead A' gs cs gl = rhead A gs cs gl := by unfold rhead; rw [hn, h1, h2, h3]
    rw [this]; exact h.hd
  · rw [hn] at hi
    rw [hl (i / 8) (by omega)]; exact b4 i hi
  · rw [hn]
    refine h.lb.ext fun i hi => ?_
    unfold rrowF; rw [hl i hi]
  · intro i hi
    rw [hn] at hi
    rw [hl i hi]; exact h.row i hi
  · intro i hi; rw [hn] at hi; exact h.ap i hi
  · intro i j hi hj; rw [hn] at hi hj; exact h.dj i j hi hj

end

end Go.Proofs.Ytjmgmbigbkllgaa


/-
  What the document's Crash does.
-/
namespace Go.Proofs.Ytjmgmbigbkllgaa
open Go.ChangeShapes Go.WideShapes Go.ChangeAt Go.RowKit Go.Joins
set_option maxRecDepth 10000
set_option linter.unusedVariables false
set_option linter.unusedSimpArgs false

section
variable {w : World} {F : Nat → Prop} {b gs cs gl : Nat} {A : Mm} {ads : Nat → Option Nat} {caps : Nat → Nat}

/-- A line's row of stores is nil. -/
theorem RRep.lost (h : RRep w F b A gs cs gl ads caps) (k : Nat) (hk : k < A.n) : ∃ ads' caps', RRep (w.setCell ⟨gl, k, none⟩ (.slice none 0 0)) F b ⟨A.n, upd A.l k (A.l k).lose, A.on, A.fuse, A.steps⟩ gs cs gl ads' caps' := by
  have hK : Keeps (· = gl) w (w.setCell ⟨gl, k, none⟩ (.slice none 0 0)) := Keeps.setCell (F := (· = gl)) (p := ⟨gl, k, none⟩) (Keeps.refl _ _) rfl _
  obtain ⟨N, f, b1, b2, _, b3⟩ := h.sb
  have h1 := h.line k hk (A.l k).lose none 0 hK (fun x hx => Or.inr (Or.inl hx)) ⟨N, f, b1.keeps hK h.d3, b2, fun i hi => by
    rw [b3 i hi]
    by_cases e : i / 8 = k
    · rw [e, upd_same]; rfl
    · rw [upd_other _ _ _ _ e]⟩ (h.lb.set k _) (Or.inl ⟨rfl, rfl, rfl⟩) (fun g hg => by simp at hg)
  refine ⟨upd ads k none, upd caps k 0, ?_⟩
  exact ⟨h1.hd, h1.sb, h1.lb, h1.row, h1.d1, h1.d2, h1.d3, fun i hi g hg => ⟨(h1.ap i hi g hg).1, (h1.ap i hi g hg).2.1, (h1.ap i hi g hg).2.2.1, (h1.ap i hi g hg).2.2.2.elim id (fun e => by simp at e)⟩, h1.dj, h.fb, h.fs, h.fl, fun x hx => h1.lt x (Or.inl hx)⟩

end

end Go.Proofs.Ytjmgmbigbkllgaa


/-
  What the document's Of and New make.
-/
namespace Go.Proofs.Ytjmgmbigbkllgaa
open Go.ChangeShapes Go.WideShapes Go.ChangeAt Go.RowKit Go.Joins
set_option maxRecDepth 10000
set_option linter.unusedVariables false
set_option linter.unusedSimpArgs false

theorem wp_make_full {P : Program} {w : World} {o : Oper} {a : Act} {K : Act → World → Prop} {Q : Exit → Act → World → Prop}
    (l c : Operand) (t : TypeId) (hop : o.op = Op.makeSlice t l c)
    (base : Nat) (e : TypeId) (i : TypeInfo) (z : Value) (size : Nat) (h1 : P.underlying t = some (.slice e)) (h2 : P.info? e = some i) (h3 : i.zero = some z) (h4 : i.size = size)
    (n : Nat) (hl : a.eval l = .int .i64 (n : Int)) (hc : a.eval c = .int .i64 (n : Int)) (b2 : i.bytes * n ≤ 281474976710656) (b3 : n ≤ maxLen) (b4 : base ≤ w.heap.size)
    (hK : ∀ w', w'.ownsRow base e size (.slice (some ⟨w.heap.size, 0, none⟩) n n) n (madeCells z.cells (n * size)).toList → w.grownBy w' none → K (a.put o.dst (.slice (some ⟨w.heap.size, 0, none⟩) n n)) w') : o.wp P a w K Q := by
  obtain ⟨w', hrun, r1, r2⟩ := run_make_full (P := P) w base t e i z size h1 h2 h3 h4 .i64 .i64 n b2 b3 b4
  unfold Oper.wp
  simp [execOp, hop, hl, hc, hrun, Result.andThen]
  exact hK w' r1 r2
theorem info_dones : (Try.prog.info? 142).map (fun i => (i.zero, i.size, i.bytes)) = some (some (.slice none 0 0), 1, 24) := by kernel_rfl
theorem built_ref (gs n cs gl : Nat) : Try.prog.built 99 [(0, .slice (some ⟨gs, 0, none⟩) n cs), (1, .slice (some ⟨gl, 0, none⟩) n n), (3, .int .i64 (-1))] = some #[.slice (some ⟨gs, 0, none⟩) n cs, .slice (some ⟨gl, 0, none⟩) n n, .bool false, .int .i64 (-1), .int .i64 0] := by kernel_rfl

def RMade (w : World) (n : Nat) (s : Nat → Nat → Int) (e : Ending) (w' : World) : Prop :=
  ∃ b gs cs gl F ads caps, e = .returned (.tuple #[.pointer (some ⟨b, 0, none⟩), .int .i64 0]) ∧ RRep w' F b (Mm.new n s) gs cs gl ads caps ∧ Keeps (fun _ => False) w w' ∧ ∀ k, F k → w.heap.size ≤ k

theorem rmake {w w5 : World} {n gs cs gl : Nat} {s : Nat → Nat → Int} (hk : Keeps (fun _ => False) w w5) (hs1 : w.heap.size ≤ gs) (hl1 : w.heap.size ≤ gl) (hgg : gs ≠ gl) (hsr : ∀ i, i < n → w5.rangeAt gs (i * 8) ((List.range 8).map fun j => .int .u64 (s i j)))
    (hgs : ∃ cur, w5.heap[gs]? = some (.cells cur 56 (0, 0)) ∧ n * 8 ≤ cur.size) (hcs : n ≤ cs) (hlb : Blk w5 gl n 142 (fun _ => .slice none 0 0)) :
    RMade w n s (.returned (.tuple #[.pointer (some ⟨w5.heap.size, 0, none⟩), .int .i64 0])) (w5.alloc (.cells #[.slice (some ⟨gs, 0, none⟩) n cs, .slice (some ⟨gl, 0, none⟩) n n, .bool false, .int .i64 (-1), .int .i64 0] 99)) := by
  obtain ⟨cur, hcur, hsz⟩ := hgs
  have hgsl := lt_of_block hcur
  have hgll := hlb.lt
  have hct : cur = tab cur.size (fun i => cur.getD i undef) := by
    apply Array.ext_getElem?
    intro i
    by_cases hi : i < cur.size
    · rw [tab_get _ _ _ hi]; simp [Array.getD, hi]
    · rw [tab_none _ _ _ (by omega), Array.getElem?_eq_none (by omega)]
  have hbs : Blk w5 gs cur.size 56 (fun i => cur.getD i undef) := Blk.of_tab (by rw [← hct]; exact hcur)
  refine ⟨w5.heap.size, gs, cs, gl, fun x => x = w5.heap.size ∨ x = gs ∨ x = gl, fun _ => none, fun _ => 0, rfl, ⟨heap_new w5 _, ⟨cur.size, _, hbs.alloc _, hsz, hcs, fun i hi => ?_⟩, hlb.alloc _, fun i _ => Or.inl ⟨rfl, rfl, rfl⟩, by omega, by omega, hgg, fun i _ g hg => by simp at hg, fun i j _ _ _ g hg => by simp at hg, Or.inl rfl, Or.inr (Or.inl rfl), Or.inr (Or.inr rfl), fun x hx => ?_⟩, hk.alloc _, fun x hx => ?_⟩
  · have h1 : i < n * 8 := hi
    have := hsr (i / 8) (by omega) (i % 8) (.int .u64 (s (i / 8) (i % 8))) (by simp [show i % 8 < 8 by omega])
    rw [cell_of_block hcur, show i / 8 * 8 + i % 8 = i by omega] at this
    show cur.getD i undef = _
    rw [Array.getD_eq_getD_getElem?, this]; rfl
  · rcases hx with rfl | rfl | rfl
    · simp
    · simp; omega
    · simp; omega
  · rcases hx with rfl | rfl | rfl
    · exact hk.size
    · exact hs1
    · exact hl1

/-- A row of lines that the call itself owns, with its block. -/
theorem own_lines2 {w : World} {base : Nat} {v : Value} {n : Nat} {s : Nat → Nat → Int} (h : w.ownsRow base 56 8 v n (linesV n s)) (hv : v ≠ .slice none 0 0) :
    ∃ g cap, v = .slice (some ⟨g, 0, none⟩) n cap ∧ base ≤ g ∧ n ≤ cap ∧ (∀ i, i < n → w.rangeAt g (i * 8) ((List.range 8).map fun j => .int .u64 (s i j))) ∧ ∃ cur, w.heap[g]? = some (.cells cur 56 (0, 0)) ∧ n * 8 ≤ cur.size := by
  obtain ⟨g, cap, rfl, h1, h2, h3, h4, h5⟩ := own_lines h hv
  refine ⟨g, cap, rfl, h1, h3, h4, ?_⟩
  rcases h.2 with ⟨h', _⟩ | ⟨g', cap', cur, h', _, hg, hnc, _, hcs, _⟩
  · simp at h'
  · simp only [Value.slice.injEq, Option.some.injEq, Addr.mk.injEq, and_true, true_and] at h'
    obtain ⟨rfl, rfl⟩ := h'
    exact ⟨cur, hg, by omega⟩
theorem made_dones {w : World} {base g n : Nat} (h : w.ownsRow base 142 1 (.slice (some ⟨g, 0, none⟩) n n) n (madeCells (Value.slice none 0 0).cells (n * 1)).toList) : Blk w g n 142 (fun _ => .slice none 0 0) := by
  have := made_blk h (f := fun _ => .slice none 0 0) fun i _ => by
    show (#[Value.slice none 0 0] : Array Value)[i % 1]! = _
    rw [Nat.mod_one]; rfl
  rw [Nat.mul_one] at this
  exact this

theorem rof_any (w : World) (x : Addr) (n cap : Nat) (s : Nat → Nat → Int) (hn : 64 ≤ n) (hn2 : n ≤ 1024) (hc : ∀ j u, (linesV n s)[j]? = some u → w.cell? (x.add j) = some u) (hx : x.spot = none) :
    Calls Try.prog 34 #[.slice (some x) n cap] w (RMade w n s) := by
  have n64 : ¬ ((n : Int) < 64) := by omega
  have n1024 : ¬ ((1024 : Int) < (n : Int)) := by omega
  obtain ⟨xb, xo, xs⟩ := x
  obtain rfl : xs = none := hx
  have HC : Hid (∀ w' : World, Keeps (fun _ => False) w w' → ∀ j u, (linesV n s)[j]? = some u → w'.cell? ((⟨xb, xo, none⟩ : Addr).add j) = some u) := fun w' hk j u hj => by
    have := hc j u hj
    rw [Addr.add_mid] at this ⊢
    exact hk.cellOf this id
  clear hc
  go_enter Try.func34, Try.ntmps34
  go_wp2_with fail
  refine wp_region_noPanic ?_
  refine wp_region_held_drew (S := fun w' => Keeps (fun _ => False) w w') (by kernel_rfl) ((Keeps.refl _ _).drew) (fun hHeld => ?_)
  refine take_at 1 13 (v := ?_) rfl rfl (by kernel_rfl) (by kernel_rfl) (by kernel_rfl) (Or.inl ⟨by rfl, ?_⟩) hHeld ?_
  rotate_left
  · intro w hSw; go_simp; with_reducible rfl
  simp only [Act.put, List.setIfInBounds_toArray, List.set_cons_zero, List.set_cons_succ]
  refine take_at 3 15 (v := ?_) rfl rfl (by kernel_rfl) (by kernel_rfl) (by kernel_rfl) (Or.inl ⟨by rfl, ?_⟩) hHeld ?_
  rotate_left
  · intro w hSw; go_simp; with_reducible rfl
  simp only [Act.put, List.setIfInBounds_toArray, List.set_cons_zero, List.set_cons_succ]
  refine take_at 4 16 (v := ?_) rfl rfl (by kernel_rfl) (by kernel_rfl) (by kernel_rfl) (Or.inl ⟨by rfl, ?_⟩) hHeld ?_
  rotate_left
  · intro w hSw; go_simp; with_reducible rfl
  simp only [Act.put, List.setIfInBounds_toArray, List.set_cons_zero, List.set_cons_succ]
  generalize w.drew = V at *
  refine wpAnyH_ready (rs := [0, 5]) (by kernel_rfl) (by simp) ?_
  refine AllReadyH.cons rfl (fun K hK => ?_) (AllReadyH.cons rfl (fun K hK => ?_) AllReadyH.nil)
  · skip
    go_simp
    have OW : Hid ((V.alloc (.cells #[] 56)).ownsRow w.heap.size 56 8 (.slice (some ⟨V.heap.size, 0, none⟩) 0 0) 0 []) := World.ownsRow_lit (base := w.heap.size) (e := 56) (size := 8) V #[] 0 hHeld.size (by decide) rfl
    refine hK.out _ _ (hHeld.alloc _) (fun hNew => ?_)
    clear hK K
    have HEW : Hid (w.heap.size ≤ V.heap.size) := hHeld.size
    have hEl : V.heap.size < (V.alloc (.cells #[] 56)).heap.size := by simp

    obtain ⟨E, hE⟩ : ∃ E, E = V.heap.size := ⟨_, rfl⟩
    rw [← hE] at OW HEW hEl ⊢
    clear hHeld
    have hHeld := hNew
    clear hNew

    clear hE
    generalize V.alloc (.cells #[] 56) = V1 at *
    refine wpAnyH_ready (rs := [2, 5]) (by kernel_rfl) (by simp) ?_
    refine AllReadyH.cons rfl (fun K hK => ?_) (AllReadyH.cons rfl (fun K hK => ?_) AllReadyH.nil)
    · skip
      refine (if_pos (by rfl)).mpr ?_
      obtain ⟨i0, hi, hz0, hz1, hz2⟩ := info_parts info_line
      refine wp_append_own _ (.tmp 12) (.tmp 13) 45 rfl w.heap.size 56 i0 _ 8 64 Try.underlying45 hi hz0 hz1 hz2 rfl (by decide) (.slice (some ⟨E, 0, none⟩) 0 0) 0 [] rfl (unhide OW) ⟨xb, xo, none⟩ n cap (linesV n s) rfl (linesV_len n s) (unhide HC _ hHeld) (linesV_one n s) (by unfold maxLen; omega) (by omega) hHeld.size ?_
      intro v' w4 hown hgr hnil
      rw [Nat.zero_add, List.nil_append] at hown
      obtain ⟨gs, cs, rfl, g1, g2, g3, g4⟩ := own_lines2 hown (fun h => by have := hnil.1 h; simp at this)
      have GS1 := hide g1
      have GS2 := hide g2
      have GS3 := hide g3
      have GS4 := hide g4
      clear hown hnil g1 g2 g3 g4 hi hz0 hz1 hz2 i0 OW
      have hK4 : Keeps (fun _ => False) w w4 := Keeps.grown hHeld hgr (fun k hk => by simp [Value.ownBlock] at hk; right; have := unhide HEW; omega)
      refine hK.out _ _ hK4 (fun hNew => ?_)
      clear hK K hHeld hgr
      have hHeld := hNew
      clear hNew hK4
      refine wpAnyH_ready (rs := [5]) (by kernel_rfl) (by simp) ?_
      refine AllReadyH.cons rfl (fun K hK => ?_) AllReadyH.nil
      refine (if_pos (by rfl)).mpr ?_
      obtain ⟨i1, hi1, hz10, hz11, hz12⟩ := info_parts info_dones
      refine wp_make_full (.tmp 16) (.tmp 16) 97 rfl w.heap.size 142 i1 _ 1 Try.underlying97 hi1 hz10 hz11 n rfl rfl (by rw [hz12]; omega) (by unfold maxLen; omega) hHeld.size ?_
      intro w5 hownl hgrl
      have BL := hide (made_dones hownl)
      clear hownl hi1 hz10 hz11 hz12 i1
      have hK5 : Keeps (fun _ => False) w4 w5 := Keeps.grown (Keeps.refl _ _) hgrl (fun k hk => by simp at hk)
      have GL1 : Hid (w.heap.size ≤ w4.heap.size) := hHeld.size
      refine hK.out _ _ (hHeld.trans' hK5) (fun hNew => ?_)
      clear hK K hHeld hgrl
      have hHeld := hNew
      clear hNew
      have GS3' : Hid (∀ i, i < n → w5.rangeAt gs (i * 8) ((List.range 8).map fun j => .int .u64 (s i j))) := fun i hi => rangeAt_keeps (unhide GS3 i hi) hK5 id
      have GS4' : Hid (∃ cur, w5.heap[gs]? = some (.cells cur 56 (0, 0)) ∧ n * 8 ≤ cur.size) := by
        obtain ⟨cur, h1, h2⟩ := unhide GS4
        exact ⟨cur, (hK5.block gs (lt_of_block h1) id).trans h1, h2⟩
      clear GS3 GS4 hK5
      have GS3 := GS3'
      have GS4 := GS4'
      clear GS3' GS4'
      obtain ⟨gl, hgl⟩ : ∃ gl, gl = w4.heap.size := ⟨_, rfl⟩
      rw [← hgl] at BL GL1 ⊢
      clear hgl
      generalize w5 = Z at *
      have hgg : gs ≠ gl := fun e => by
        obtain ⟨cur, h1, _⟩ := unhide GS4
        obtain ⟨cur2, h2, _⟩ := unhide BL
        rw [← e, h1] at h2
        simp at h2
      simp only [Act.put, List.setIfInBounds_toArray]
      refine take_at 6 18 (v := ?_) rfl rfl (by kernel_rfl) (by kernel_rfl) (by kernel_rfl) (Or.inl ⟨by rfl, ?_⟩) hHeld ?_
      rotate_left
      · intro w hSw; go_simp; with_reducible rfl
      simp only [Act.put, List.setIfInBounds_toArray, List.set_cons_zero, List.set_cons_succ]
      refine wpAnyH_ready (rs := [7]) (by kernel_rfl) (by simp) ?_
      refine AllReadyH.cons rfl (fun K hK => ?_) AllReadyH.nil
      go_simp
      refine hK.out _ _ (hHeld.alloc _) (fun hNew => ?_)
      clear hK K
      have HKZ := hide hHeld
      clear hHeld
      have hHeld := hNew
      clear hNew
      refine take_at 8 2 (v := ?_) rfl rfl (by kernel_rfl) (by kernel_rfl) (by kernel_rfl) (Or.inl ⟨by rfl, ?_⟩) hHeld ?_
      rotate_left
      · intro w hSw; go_simp; with_reducible rfl
      simp only [Act.put, List.setIfInBounds_toArray, List.set_cons_zero, List.set_cons_succ]
      refine take_at 9 3 (v := ?_) rfl rfl (by kernel_rfl) (by kernel_rfl) (by kernel_rfl) (Or.inl ⟨by rfl, ?_⟩) hHeld ?_
      rotate_left
      · intro w hSw; go_simp; with_reducible rfl
      simp only [Act.put, List.setIfInBounds_toArray, List.set_cons_zero, List.set_cons_succ]
      refine wpAnyH_done (by kernel_rfl) ?_ _
      refine NoPanic.normal ?_
      clear hHeld
      go_wp2_with fail
      go_ret2
      exact rmake (unhide HKZ) (unhide GS1) (unhide GL1) hgg (unhide GS3) (unhide GS4) (unhide GS2) (unhide BL)
    · skip
      refine (if_pos (by rfl)).mpr ?_
      obtain ⟨i1, hi1, hz10, hz11, hz12⟩ := info_parts info_dones
      refine wp_make_full (.tmp 16) (.tmp 16) 97 rfl w.heap.size 142 i1 _ 1 Try.underlying97 hi1 hz10 hz11 n rfl rfl (by rw [hz12]; omega) (by unfold maxLen; omega) hHeld.size ?_
      intro w5 hownl hgrl
      have BL := hide (made_dones hownl)
      clear hownl hi1 hz10 hz11 hz12 i1
      have OW5 := hide ((unhide OW).kept hgrl (Or.inr (by simp [Value.ownBlock])))
      have hK5 : Keeps (fun _ => False) V1 w5 := Keeps.grown (Keeps.refl _ _) hgrl (fun k hk => by simp at hk)
      have GL1 : Hid (w.heap.size ≤ V1.heap.size) := hHeld.size
      have hgE : Hid (V1.heap.size ≠ E) := by show _ ≠ _; omega
      refine hK.out _ _ (hHeld.trans' hK5) (fun hNew => ?_)
      clear hK K hHeld hgrl OW hK5
      have hHeld := hNew
      have OW := OW5
      clear hNew OW5
      obtain ⟨gl, hgl⟩ : ∃ gl, gl = V1.heap.size := ⟨_, rfl⟩
      rw [← hgl] at BL GL1 hgE ⊢
      clear hgl
      simp only [Act.put, List.setIfInBounds_toArray]
      refine wpAnyH_ready (rs := [2]) (by kernel_rfl) (by simp) ?_
      refine AllReadyH.cons rfl (fun K hK => ?_) AllReadyH.nil
      refine (if_pos (by rfl)).mpr ?_
      obtain ⟨i0, hi, hz0, hz1, hz2⟩ := info_parts info_line
      refine wp_append_own _ (.tmp 12) (.tmp 13) 45 rfl w.heap.size 56 i0 _ 8 64 Try.underlying45 hi hz0 hz1 hz2 rfl (by decide) (.slice (some ⟨E, 0, none⟩) 0 0) 0 [] rfl (unhide OW) ⟨xb, xo, none⟩ n cap (linesV n s) rfl (linesV_len n s) (unhide HC _ hHeld) (linesV_one n s) (by unfold maxLen; omega) (by omega) hHeld.size ?_
      intro v' w4 hown hgr hnil
      rw [Nat.zero_add, List.nil_append] at hown
      obtain ⟨gs, cs, rfl, g1, g2, g3, g4⟩ := own_lines2 hown (fun h => by have := hnil.1 h; simp at this)
      have GS1 := hide g1
      have GS2 := hide g2
      have GS3 := hide g3
      have GS4 := hide g4
      clear hown hnil g1 g2 g3 g4 hi hz0 hz1 hz2 i0 OW
      have hK4 : Keeps (fun x => x = E) _ w4 := Keeps.grown (Keeps.refl _ _) hgr (fun k hk => by simp [Value.ownBlock] at hk; left; exact hk.symm)
      have BL4 : Hid (Blk w4 gl n 142 (fun _ => .slice none 0 0)) := (unhide BL).keeps hK4 (unhide hgE)
      have hK6 : Keeps (fun _ => False) w w4 := Keeps.grown hHeld hgr (fun k hk => by simp [Value.ownBlock] at hk; right; have := unhide HEW; omega)
      refine hK.out _ _ hK6 (fun hNew => ?_)
      clear hK K hHeld hgr hK4 hK6 BL
      have hHeld := hNew
      have BL := BL4
      clear hNew BL4
      generalize w4 = Z at *
      have hgg : gs ≠ gl := fun e => by
        obtain ⟨cur, h1, _⟩ := unhide GS4
        obtain ⟨cur2, h2, _⟩ := unhide BL
        rw [← e, h1] at h2
        simp at h2
      simp only [Act.put, List.setIfInBounds_toArray]
      refine take_at 6 18 (v := ?_) rfl rfl (by kernel_rfl) (by kernel_rfl) (by kernel_rfl) (Or.inl ⟨by rfl, ?_⟩) hHeld ?_
      rotate_left
      · intro w hSw; go_simp; with_reducible rfl
      simp only [Act.put, List.setIfInBounds_toArray, List.set_cons_zero, List.set_cons_succ]
      refine wpAnyH_ready (rs := [7]) (by kernel_rfl) (by simp) ?_
      refine AllReadyH.cons rfl (fun K hK => ?_) AllReadyH.nil
      go_simp
      refine hK.out _ _ (hHeld.alloc _) (fun hNew => ?_)
      clear hK K
      have HKZ := hide hHeld
      clear hHeld
      have hHeld := hNew
      clear hNew
      refine take_at 8 2 (v := ?_) rfl rfl (by kernel_rfl) (by kernel_rfl) (by kernel_rfl) (Or.inl ⟨by rfl, ?_⟩) hHeld ?_
      rotate_left
      · intro w hSw; go_simp; with_reducible rfl
      simp only [Act.put, List.setIfInBounds_toArray, List.set_cons_zero, List.set_cons_succ]
      refine take_at 9 3 (v := ?_) rfl rfl (by kernel_rfl) (by kernel_rfl) (by kernel_rfl) (Or.inl ⟨by rfl, ?_⟩) hHeld ?_
      rotate_left
      · intro w hSw; go_simp; with_reducible rfl
      simp only [Act.put, List.setIfInBounds_toArray, List.set_cons_zero, List.set_cons_succ]
      refine wpAnyH_done (by kernel_rfl) ?_ _
      refine NoPanic.normal ?_
      clear hHeld
      go_wp2_with fail
      go_ret2
      exact rmake (unhide HKZ) (unhide GS1) (unhide GL1) hgg (unhide GS3) (unhide GS4) (unhide GS2) (unhide BL)
  · skip
    refine (if_pos (by rfl)).mpr ?_
    obtain ⟨i1, hi1, hz10, hz11, hz12⟩ := info_parts info_dones
    refine wp_make_full (.tmp 16) (.tmp 16) 97 rfl w.heap.size 142 i1 _ 1 Try.underlying97 hi1 hz10 hz11 n rfl rfl (by rw [hz12]; omega) (by unfold maxLen; omega) hHeld.size ?_
    intro w5 hownl hgrl
    have BL := hide (made_dones hownl)
    clear hownl hi1 hz10 hz11 hz12 i1
    have hK5 : Keeps (fun _ => False) V w5 := Keeps.grown (Keeps.refl _ _) hgrl (fun k hk => by simp at hk)
    have GL1 : Hid (w.heap.size ≤ V.heap.size) := hHeld.size
    refine hK.out _ _ (hHeld.trans' hK5) (fun hNew => ?_)
    clear hK K hHeld hgrl hK5
    have hHeld := hNew
    clear hNew
    obtain ⟨gl, hgl⟩ : ∃ gl, gl = V.heap.size := ⟨_, rfl⟩
    rw [← hgl] at BL GL1 ⊢
    clear hgl V
    generalize w5 = V at *
    have hglV : Hid (gl < V.heap.size) := (unhide BL).lt
    simp only [Act.put, List.setIfInBounds_toArray]
    refine wpAnyH_ready (rs := [0]) (by kernel_rfl) (by simp) ?_
    refine AllReadyH.cons rfl (fun K hK => ?_) AllReadyH.nil
    go_simp
    have OW : Hid ((V.alloc (.cells #[] 56)).ownsRow w.heap.size 56 8 (.slice (some ⟨V.heap.size, 0, none⟩) 0 0) 0 []) := World.ownsRow_lit (base := w.heap.size) (e := 56) (size := 8) V #[] 0 hHeld.size (by decide) rfl
    refine hK.out _ _ (hHeld.alloc _) (fun hNew => ?_)
    clear hK K
    have HEW : Hid (w.heap.size ≤ V.heap.size) := hHeld.size
    have hEl : V.heap.size < (V.alloc (.cells #[] 56)).heap.size := by simp
    have BL1 : Hid (Blk (V.alloc (.cells #[] 56)) gl n 142 (fun _ => .slice none 0 0)) := (unhide BL).alloc _
    clear BL
    have BL := BL1
    clear BL1
    obtain ⟨E, hE⟩ : ∃ E, E = V.heap.size := ⟨_, rfl⟩
    rw [← hE] at OW HEW hEl ⊢
    clear hHeld
    have hHeld := hNew
    clear hNew
    have hgE : Hid (gl ≠ E) := by show _ ≠ _; have := unhide hglV; omega
    clear hglV
    clear hE
    generalize V.alloc (.cells #[] 56) = V1 at *
    refine wpAnyH_ready (rs := [2]) (by kernel_rfl) (by simp) ?_
    refine AllReadyH.cons rfl (fun K hK => ?_) AllReadyH.nil
    refine (if_pos (by rfl)).mpr ?_
    obtain ⟨i0, hi, hz0, hz1, hz2⟩ := info_parts info_line
    refine wp_append_own _ (.tmp 12) (.tmp 13) 45 rfl w.heap.size 56 i0 _ 8 64 Try.underlying45 hi hz0 hz1 hz2 rfl (by decide) (.slice (some ⟨E, 0, none⟩) 0 0) 0 [] rfl (unhide OW) ⟨xb, xo, none⟩ n cap (linesV n s) rfl (linesV_len n s) (unhide HC _ hHeld) (linesV_one n s) (by unfold maxLen; omega) (by omega) hHeld.size ?_
    intro v' w4 hown hgr hnil
    rw [Nat.zero_add, List.nil_append] at hown
    obtain ⟨gs, cs, rfl, g1, g2, g3, g4⟩ := own_lines2 hown (fun h => by have := hnil.1 h; simp at this)
    have GS1 := hide g1
    have GS2 := hide g2
    have GS3 := hide g3
    have GS4 := hide g4
    clear hown hnil g1 g2 g3 g4 hi hz0 hz1 hz2 i0 OW
    have hK4 : Keeps (fun x => x = E) _ w4 := Keeps.grown (Keeps.refl _ _) hgr (fun k hk => by simp [Value.ownBlock] at hk; left; exact hk.symm)
    have BL4 : Hid (Blk w4 gl n 142 (fun _ => .slice none 0 0)) := (unhide BL).keeps hK4 (unhide hgE)
    have hK6 : Keeps (fun _ => False) w w4 := Keeps.grown hHeld hgr (fun k hk => by simp [Value.ownBlock] at hk; right; have := unhide HEW; omega)
    refine hK.out _ _ hK6 (fun hNew => ?_)
    clear hK K hHeld hgr hK4 hK6 BL
    have hHeld := hNew
    have BL := BL4
    clear hNew BL4
    generalize w4 = Z at *
    have hgg : gs ≠ gl := fun e => by
      obtain ⟨cur, h1, _⟩ := unhide GS4
      obtain ⟨cur2, h2, _⟩ := unhide BL
      rw [← e, h1] at h2
      simp at h2
    simp only [Act.put, List.setIfInBounds_toArray]
    refine take_at 6 18 (v := ?_) rfl rfl (by kernel_rfl) (by kernel_rfl) (by kernel_rfl) (Or.inl ⟨by rfl, ?_⟩) hHeld ?_
    rotate_left
    · intro w hSw; go_simp; with_reducible rfl
    simp only [Act.put, List.setIfInBounds_toArray, List.set_cons_zero, List.set_cons_succ]
    refine wpAnyH_ready (rs := [7]) (by kernel_rfl) (by simp) ?_
    refine AllReadyH.cons rfl (fun K hK => ?_) AllReadyH.nil
    go_simp
    refine hK.out _ _ (hHeld.alloc _) (fun hNew => ?_)
    clear hK K
    have HKZ := hide hHeld
    clear hHeld
    have hHeld := hNew
    clear hNew
    refine take_at 8 2 (v := ?_) rfl rfl (by kernel_rfl) (by kernel_rfl) (by kernel_rfl) (Or.inl ⟨by rfl, ?_⟩) hHeld ?_
    rotate_left
    · intro w hSw; go_simp; with_reducible rfl
    simp only [Act.put, List.setIfInBounds_toArray, List.set_cons_zero, List.set_cons_succ]
    refine take_at 9 3 (v := ?_) rfl rfl (by kernel_rfl) (by kernel_rfl) (by kernel_rfl) (Or.inl ⟨by rfl, ?_⟩) hHeld ?_
    rotate_left
    · intro w hSw; go_simp; with_reducible rfl
    simp only [Act.put, List.setIfInBounds_toArray, List.set_cons_zero, List.set_cons_succ]
    refine wpAnyH_done (by kernel_rfl) ?_ _
    refine NoPanic.normal ?_
    clear hHeld
    go_wp2_with fail
    go_ret2
    exact rmake (unhide HKZ) (unhide GS1) (unhide GL1) hgg (unhide GS3) (unhide GS4) (unhide GS2) (unhide BL)

theorem rnew_any (w : World) (n : Nat) (hn : 64 ≤ n) (hn2 : n ≤ 1024) : Calls Try.prog 10 #[.int .i64 n] w (RMade w n fun _ _ => 0) := by
  have n64 : ¬ ((n : Int) < 64) := by omega
  have n1024 : ¬ ((1024 : Int) < (n : Int)) := by omega
  obtain ⟨i0, hi, hz0, hz1, hz2⟩ := info_parts info_line
  go_enter Try.func10, Try.ntmps10
  go_wp2_with (at_make; refine wpList_make_full _ rfl _ _ 45 rfl w.heap.size 56 i0 _ 8 Try.underlying45 hi hz0 hz1 .i64 .i64 _ _ n rfl rfl rfl rfl (by rw [hz2]; omega) (by unfold maxLen; omega) (Nat.le_refl _) ?_; intro w2 hown hgrow)
  have hb : Blk w2 w.heap.size (n * 8) 56 (fun _ => .int .u64 0) := made_blk hown fun i _ => by
    show (lnV fun _ => 0)[i % (lnV fun _ => 0).size]! = _
    rw [lnV_size]
    have := tab_get 8 (fun _ => Value.int .u64 0) (i % 8) (Nat.mod_lt _ (by decide))
    rw [getElem!_def, show (lnV fun _ => 0)[i % 8]? = _ from this]
  have hl : ∀ i, i < n → w2.rangeAt w.heap.size (0 + i * 8) ((List.range 8).map fun j => .int .u64 ((fun _ _ => 0 : Nat → Nat → Int) i j)) := fun i hi => hb.range _ 8 (by omega) _ (fun j hj => rfl)
  refine (rof_any w2 ⟨w.heap.size, 0, none⟩ n n _ hn hn2 (lines_cells hl) rfl).mono ?_
  rintro e w3 ⟨b, gs, cs, gl, F, ads, caps, rfl, hr, hkp, hF⟩
  have HR := hide hr
  have HK : Hid (Keeps (fun _ => False) w w3) := (Keeps.grown (Keeps.refl _ _) hgrow (fun k hk => by simp at hk)).trans' hkp
  have HS := hgrow.size
  clear hr hkp hown hb hl hi hz0 hz1 hz2 hgrow
  go_wp2_with fail
  go_ret2
  exact ⟨b, gs, cs, gl, F, ads, caps, rfl, unhide HR, unhide HK, fun k hk => Nat.le_trans HS (hF k hk)⟩

theorem rnew_bad (w : World) (z : Int) (hz : ¬ (64 ≤ z ∧ z ≤ 1024)) : Calls Try.prog 10 #[.int .i64 z] w fun e w' => e = .returned (.tuple #[.pointer none, .int .i64 1]) ∧ w' = w := by
  by_cases h1 : z < 64
  · clear hz
    go_enter Try.func10, Try.ntmps10
    go_wp2_with fail
    go_ret2
    exact ⟨rfl, rfl⟩
  · have h2 : 1024 < z := by omega
    clear hz
    go_enter Try.func10, Try.ntmps10
    go_wp2_with fail
    go_ret2
    exact ⟨rfl, rfl⟩

end Go.Proofs.Ytjmgmbigbkllgaa


/-
  What the document's Store does.
-/
namespace Go.Proofs.Ytjmgmbigbkllgaa
open Go.ChangeShapes Go.WideShapes Go.ChangeAt Go.RowKit Go.Joins
set_option maxRecDepth 10000
set_option linter.unusedVariables false
set_option linter.unusedSimpArgs false

section
variable {w : World} {F : Nat → Prop} {b gs cs gl : Nat} {A : Mm} {ads : Nat → Option Nat} {caps : Nat → Nat}

/-- The ten cells of a new store. -/
def newD (q : Nat) (v : Int) : Array Value := #[.int .i64 (q : Int), .int .u64 v, .bool false, .bool false, .bool false, .bool false, .bool false, .bool false, .bool false, .bool false]
theorem doneV_store (l : Ln) (q : Nat) (v : Int) (hf : ∀ j, l.f j ≤ l.t.length) : doneV (l.store q v) = doneV l ++ (newD q v).toList := by
  apply List.ext_getElem?
  intro i
  have hl : (l.store q v).t.length = l.t.length + 1 := by simp [Ln.store]
  by_cases h1 : i < l.t.length * 10
  · rw [List.getElem?_append_left (by rw [doneV_len]; exact h1)]
    simp only [doneV, hl, List.getElem?_map, List.getElem?_range h1, List.getElem?_range (show i < (l.t.length + 1) * 10 by omega), Option.map_some, Option.some.injEq]
    unfold doneAt Ln.store
    simp only [List.getD_eq_getElem?_getD, List.getElem?_append_left (show i / 10 < l.t.length by omega)]
  · rw [List.getElem?_append_right (by rw [doneV_len]; omega), doneV_len]
    by_cases h2 : i < (l.t.length + 1) * 10
    · obtain ⟨c, hc, rfl⟩ : ∃ c, c < 10 ∧ i = l.t.length * 10 + c := ⟨i - l.t.length * 10, by omega, by omega⟩
      simp only [doneV, hl, List.getElem?_map, List.getElem?_range h2, Option.map_some, show l.t.length * 10 + c - l.t.length * 10 = c by omega]
      unfold doneAt
      rw [show (l.t.length * 10 + c) / 10 = l.t.length by omega, show (l.t.length * 10 + c) % 10 = c by omega]
      have hg : (l.store q v).t.getD l.t.length (0, 0) = (q, v) := by simp [Ln.store]
      rw [hg]
      have hfl : ∀ d, decide (l.t.length < (l.store q v).f d) = false := fun d => decide_eq_false (by have := hf d; show ¬ l.t.length < l.f d; omega)
      rcases (show c = 0 ∨ c = 1 ∨ c = 2 ∨ c = 3 ∨ c = 4 ∨ c = 5 ∨ c = 6 ∨ c = 7 ∨ c = 8 ∨ c = 9 by omega) with rfl | rfl | rfl | rfl | rfl | rfl | rfl | rfl | rfl | rfl <;> simp [newD, hfl]
    · rw [List.getElem?_eq_none (by rw [doneV_len, hl]; omega), List.getElem?_eq_none (by simp [newD]; omega)]

/-- Behind the step: the row of a line's stores is made anew, with one more. -/
theorem rstore_end {w4 : World} (h : RRep w F b A gs cs gl ads caps) (k q : Nat) (v : Int) (hk : k < A.n) (hg4 : Keeps (fun _ => False) w w4) (g' cap' : Nat) (hbase : w.heap.size ≤ g') (hrow : RRow w4 ((A.l k).store q v) (some g') cap') :
    ∃ F' ads' caps', RRep (w4.setCell ⟨gl, k, none⟩ (.slice (some ⟨g', 0, none⟩) ((A.l k).t.length + 1) cap')) F' b ⟨A.n, upd A.l k ((A.l k).store q v), A.on, A.fuse, A.steps⟩ gs cs gl ads' caps' ∧ Keeps F w (w4.setCell ⟨gl, k, none⟩ (.slice (some ⟨g', 0, none⟩) ((A.l k).t.length + 1) cap')) ∧ Grew F w F' := by
  have hK4 : Keeps (fun x => x = gl) w (w4.setCell ⟨gl, k, none⟩ (.slice (some ⟨g', 0, none⟩) ((A.l k).t.length + 1) cap')) :=
    Keeps.setCell (F := fun x => x = gl) (p := ⟨gl, k, none⟩) (hg4.mono fun _ _ f => f.elim) rfl _
  have hgl : gl < w.heap.size := h.lt gl h.fl
  have hkl : Keeps (· = gl) w4 (w4.setCell ⟨gl, k, none⟩ (.slice (some ⟨g', 0, none⟩) ((A.l k).t.length + 1) cap')) := Keeps.setCell (F := (· = gl)) (p := ⟨gl, k, none⟩) (Keeps.refl _ _) rfl _
  obtain ⟨N, f, b1, b2, _, b3⟩ := h.sb
  refine ⟨_, _, _, h.line k hk ((A.l k).store q v) (some g') cap' hK4 (fun x hx => Or.inr (Or.inl hx)) ⟨N, f, b1.keeps hK4 h.d3, b2, fun i hi => ?_⟩ ?_ ?_ (fun g e => ?_), hK4.mono fun x _ hx => by rw [hx]; exact h.fl, fun x hx => ?_⟩
  · rw [b3 i hi]
    by_cases e : i / 8 = k
    · rw [e, upd_same]; rfl
    · rw [upd_other _ _ _ _ e]
  · refine ((h.lb.keeps hg4 id).set k _).ext fun i _ => ?_
    rw [show ((A.l k).store q v).t.length = (A.l k).t.length + 1 by simp [Ln.store]]; rfl
  · exact hrow.keeps hkl fun g e e2 => by cases e; omega
  · cases e; exact Or.inr hbase
  · rcases hx with hx | hx
    · exact Or.inl hx
    · cases hx; exact Or.inr hbase
theorem built_done (q : Nat) (v : Int) : Try.prog.built 146 [(0, .int .i64 (q : Int)), (1, .int .u64 v)] = some #[.int .i64 (q : Int), .int .u64 v, .bool false, .bool false, .bool false, .bool false, .bool false, .bool false, .bool false, .bool false] := by kernel_rfl

theorem own_ne {V : World} {base E nb : Nat} {q : Nat} {v : Int} (h : V.ownsRow base 146 10 (.slice (some ⟨E, 0, none⟩) 0 0) 0 []) (hn : V.heap[nb]? = some (.cells (newD q v) 146 (0, 0))) : nb ≠ E := fun e => by
  rcases h.2 with ⟨h', _⟩ | ⟨g', cap', cur, h', _, hg, _, _, hcs, _⟩
  · simp at h'
  · simp only [Value.slice.injEq, Option.some.injEq, Addr.mk.injEq, and_true, true_and] at h'
    obtain ⟨rfl, rfl⟩ := h'
    rw [← e, hn] at hg
    simp at hg
    rw [← hg] at hcs
    simp [newD] at hcs

end

end Go.Proofs.Ytjmgmbigbkllgaa
