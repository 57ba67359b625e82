
/-
  How a memory of nvm lies in the program's memory: its own block, the block of its lines (25 cells a line), a block of stores for each line that has some; and what a step may turn.
-/
import Derived.WalkKit
import Derived.ProofKit
import Derived.OpenShut
import Derived.Test.YtiafhcgaikapcaaGreatRows2
import Derived.Test.YtiafhcgaikapcaaGreatNMath
namespace Go.Proofs.YtiafhcgaikapcaaGreat
open Go.ChangeShapes Go.WideShapes Go.ChangeAt Go.RowKit Go.Joins

/-! ### Only the blocks of F turn -/
structure Keeps (F : Nat → Prop) (w w' : World) : Prop where
  os : w'.os = w.os
  tape : w'.tape = w.tape
  output : w'.output = w.output
  size : w.heap.size ≤ w'.heap.size
  block : ∀ k, k < w.heap.size → ¬ F k → w'.heap[k]? = w.heap[k]?

theorem Keeps.refl (F : Nat → Prop) (w : World) : Keeps F w w := ⟨rfl, rfl, rfl, Nat.le_refl _, fun _ _ _ => rfl⟩
theorem Keeps.mono {F G : Nat → Prop} {w w' : World} (h : Keeps F w w') (hFG : ∀ k, k < w.heap.size → F k → G k) : Keeps G w w' :=
  ⟨h.os, h.tape, h.output, h.size, fun k hk hg => h.block k hk fun hf => hg (hFG k hk hf)⟩
/-- F' is F with blocks that were not there before. -/
def Grew (F : Nat → Prop) (w : World) (F' : Nat → Prop) : Prop := ∀ k, F' k → F k ∨ w.heap.size ≤ k
theorem Keeps.trans {F F' : Nat → Prop} {a b c : World} (h : Keeps F a b) (hg : Grew F a F') (k : Keeps F' b c) : Keeps F a c :=
  ⟨k.os.trans h.os, k.tape.trans h.tape, k.output.trans h.output, Nat.le_trans h.size k.size, fun i hi hf =>
    (k.block i (Nat.lt_of_lt_of_le hi h.size) (fun hf' => (hg i hf').elim hf (fun h => by omega))).trans (h.block i hi hf)⟩
theorem Keeps.trans' {F : Nat → Prop} {a b c : World} (h : Keeps F a b) (k : Keeps F b c) : Keeps F a c := h.trans (fun _ h => Or.inl h) k
theorem Grew.refl (F : Nat → Prop) (w : World) : Grew F w F := fun _ h => Or.inl h
theorem Grew.trans {F F' F'' : Nat → Prop} {w w' : World} (h : Grew F w F') (hs : w.heap.size ≤ w'.heap.size) (k : Grew F' w' F'') : Grew F w F'' := fun i hi =>
  (k i hi).elim (h i) (fun h => Or.inr (by omega))
theorem Keeps.drew {F : Nat → Prop} {a w : World} (h : Keeps F a w) : Keeps F a w.drew := ⟨h.os, h.tape, h.output, h.size, h.block⟩
theorem Keeps.alloc {F : Nat → Prop} {a w : World} (h : Keeps F a w) (o : Obj) : Keeps F a (w.alloc o) :=
  ⟨h.os, h.tape, h.output, Nat.le_trans h.size (by simp), fun k hk hf => by rw [Below.heap_alloc _ _ _ (Nat.lt_of_lt_of_le hk h.size)]; exact h.block k hk hf⟩
theorem Keeps.setCell {F : Nat → Prop} {a w : World} (h : Keeps F a w) {p : Addr} (hp : F p.block) (u : Value) : Keeps F a (w.setCell p u) :=
  ⟨h.os, h.tape, h.output, by simpa [World.setCell] using h.size, fun k hk hf => by
    have hne : k ≠ p.block := fun e => hf (by rw [e]; exact hp)
    rw [Below.heap_setCell _ _ _ _ hne]; exact h.block k hk hf⟩
theorem Keeps.setCell_new {F : Nat → Prop} {a w : World} (h : Keeps F a w) {p : Addr} (hp : a.heap.size ≤ p.block) (u : Value) : Keeps F a (w.setCell p u) :=
  ⟨h.os, h.tape, h.output, by simpa [World.setCell] using h.size, fun k hk hf => by
    rw [Below.heap_setCell _ _ _ _ (by omega)]; exact h.block k hk hf⟩
theorem Keeps.setRow {F : Nat → Prop} {a w : World} (h : Keeps F a w) {b : Nat} (hp : F b ∨ a.heap.size ≤ b) (cs : Array Value) : Keeps F a (w.setRow b cs) :=
  ⟨h.os, h.tape, h.output, by simpa using h.size, fun k hk hf => by
    have hne : k ≠ b := fun e => hp.elim (fun h => hf (by rw [e]; exact h)) (fun h => by omega)
    rw [setRow_other _ _ _ _ hne]; exact h.block k hk hf⟩
theorem Keeps.grown {F : Nat → Prop} {a w w' : World} {row : Option Nat} (h : Keeps F a w) (hg : w.grownBy w' row) (hr : ∀ k, row = some k → F k ∨ a.heap.size ≤ k) : Keeps F a w' :=
  ⟨hg.os.trans h.os, hg.tape.trans h.tape, hg.output.trans h.output, Nat.le_trans h.size hg.size, fun k hk hf =>
    (hg.block k (Nat.lt_of_lt_of_le hk h.size) (fun e => (hr k e.symm).elim hf (fun h => by omega))).trans (h.block k hk hf)⟩
theorem Keeps.below {F : Nat → Prop} {w w' : World} {B : Nat} (h : Keeps F w w') (hB : B ≤ w.heap.size) (hF : ∀ k, F k → B ≤ k) : Below B w w' :=
  ⟨h.os, h.tape, h.output, h.size, fun k hk => h.block k (by omega) (fun hf => by have := hF k hf; omega)⟩
theorem Keeps.of_below {F : Nat → Prop} {w w' : World} (h : Below w.heap.size w w') : Keeps F w w' := ⟨h.os, h.tape, h.output, h.size, fun k hk _ => h.block k hk⟩

/-! ### Rows of values as functions of the place -/
def tab (N : Nat) (f : Nat → Value) : Array Value := ((List.range N).map f).toArray
theorem tab_size (N : Nat) (f : Nat → Value) : (tab N f).size = N := by simp [tab]
theorem tab_get (N : Nat) (f : Nat → Value) (i : Nat) (h : i < N) : (tab N f)[i]? = some (f i) := by simp [tab, h]
theorem tab_none (N : Nat) (f : Nat → Value) (i : Nat) (h : N ≤ i) : (tab N f)[i]? = none := by simp [tab, h]
theorem tab_ext {N : Nat} {f g : Nat → Value} (h : ∀ i, i < N → f i = g i) : tab N f = tab N g := by
  apply Array.ext_getElem?
  intro i
  by_cases hi : i < N
  · rw [tab_get _ _ _ hi, tab_get _ _ _ hi, h i hi]
  · rw [tab_none _ _ _ (by omega), tab_none _ _ _ (by omega)]
theorem tab_set (N : Nat) (f : Nat → Value) (i : Nat) (v : Value) : (tab N f).setIfInBounds i v = tab N (upd f i v) := by
  apply Array.ext_getElem?
  intro j
  by_cases hj : j < N
  · rw [tab_get _ _ _ hj]
    by_cases hji : j = i
    · subst hji; rw [Array.getElem?_setIfInBounds_self_of_lt (by rw [tab_size]; exact hj), upd_same]
    · rw [Array.getElem?_setIfInBounds_ne (Ne.symm hji), tab_get _ _ _ hj, upd_other _ _ _ _ hji]
  · rw [tab_none _ _ _ (by omega), Array.getElem?_eq_none (by rw [Array.size_setIfInBounds, tab_size]; omega)]
theorem tab_iv (k : IntKind) (N : Nat) (f : Nat → Int) : tab N (fun i => .int k (f i)) = iv k ((List.range N).map f) := by
  simp [tab, iv, List.map_map, Function.comp_def]

/-- A block that begins with a row of values by place. -/
def Blk (w : World) (c N : Nat) (T : TypeId) (f : Nat → Value) : Prop := ∃ cur, w.heap[c]? = some (.cells cur T (0, 0)) ∧ N ≤ cur.size ∧ ∀ i, i < N → cur[i]? = some (f i)
theorem Blk.of_tab {w : World} {c N : Nat} {T : TypeId} {f : Nat → Value} (h : w.heap[c]? = some (.cells (tab N f) T (0, 0))) : Blk w c N T f :=
  ⟨_, h, by rw [tab_size]; exact Nat.le_refl _, fun i hi => tab_get _ _ _ hi⟩
theorem Blk.cell {w : World} {c N : Nat} {T : TypeId} {f : Nat → Value} (h : Blk w c N T f) (i : Nat) (hi : i < N) : w.cell? ⟨c, i, none⟩ = some (f i) := by
  obtain ⟨cur, h1, h2, h3⟩ := h
  rw [cell_of_block h1, h3 _ hi]
theorem Blk.free {w : World} {c N : Nat} {T : TypeId} {f : Nat → Value} (h : Blk w c N T f) (i : Nat) : w.frozen? ⟨c, i, none⟩ = false := by
  obtain ⟨cur, h1, h2, h3⟩ := h
  exact unfrozen_of_block h1 i
theorem Blk.lt {w : World} {c N : Nat} {T : TypeId} {f : Nat → Value} (h : Blk w c N T f) : c < w.heap.size := by
  obtain ⟨cur, h1, h2, h3⟩ := h
  rcases Nat.lt_or_ge c w.heap.size with h' | h'
  · exact h'
  · simp [Array.getElem?_eq_none h'] at h1
theorem Blk.set {w : World} {c N : Nat} {T : TypeId} {f : Nat → Value} (h : Blk w c N T f) (i : Nat) (v : Value) : Blk (w.setCell ⟨c, i, none⟩ v) c N T (upd f i v) := by
  obtain ⟨cur, h1, h2, h3⟩ := h
  refine ⟨cur.setIfInBounds i v, by rw [block_setCell h1], by rw [Array.size_setIfInBounds]; exact h2, fun j hj => ?_⟩
  by_cases hji : j = i
  · subst hji; rw [Array.getElem?_setIfInBounds_self_of_lt (by omega), upd_same]
  · rw [Array.getElem?_setIfInBounds_ne (Ne.symm hji), h3 _ hj, upd_other _ _ _ _ hji]
theorem Blk.drew {w : World} {c N : Nat} {T : TypeId} {f : Nat → Value} (h : Blk w c N T f) : Blk w.drew c N T f := h
theorem Blk.alloc {w : World} {c N : Nat} {T : TypeId} {f : Nat → Value} (h : Blk w c N T f) (o : Obj) : Blk (w.alloc o) c N T f := by
  unfold Blk; rw [Below.heap_alloc _ _ _ h.lt]; exact h
theorem Blk.ext {w : World} {c N : Nat} {T : TypeId} {f g : Nat → Value} (h : Blk w c N T f) (e : ∀ i, i < N → f i = g i) : Blk w c N T g := by
  obtain ⟨cur, h1, h2, h3⟩ := h
  exact ⟨cur, h1, h2, fun i hi => by rw [h3 i hi, e i hi]⟩
theorem Blk.range {w : World} {c N : Nat} {T : TypeId} {f : Nat → Value} (h : Blk w c N T f) (o m : Nat) (hm : o + m ≤ N) (g : Nat → Value) (hg : ∀ j, j < m → f (o + j) = g j) : w.rangeAt c o ((List.range m).map g) := fun j v hv => by
  have hj : j < m := by
    rcases Nat.lt_or_ge j m with h' | h'
    · exact h'
    · rw [List.getElem?_eq_none (by simpa using h')] at hv; simp at hv
  rw [h.cell (o + j) (by omega), hg j hj]
  simpa [hj] using hv
theorem Blk.there {w : World} {c N : Nat} {T : TypeId} {f : Nat → Value} (h : Blk w c N T f) (o m : Nat) (hm : o + m ≤ N) : w.there c o m := fun j hj =>
  ⟨by rw [h.cell _ (by omega)]; rfl, h.free _⟩
theorem Blk.keeps {F : Nat → Prop} {w w' : World} {c N : Nat} {T : TypeId} {f : Nat → Value} (h : Blk w c N T f) (hk : Keeps F w w') (hc : ¬ F c) : Blk w' c N T f := by
  unfold Blk; rw [hk.block c h.lt hc]; exact h
/-- Many cells stored at once. -/
theorem Blk.sets {c N : Nat} {T : TypeId} (vs : List Value) : ∀ (w : World) (f : Nat → Value) (o : Nat), Blk w c N T f → Blk (w.setCells c o vs) c N T (fun i => if o ≤ i ∧ i < o + vs.length then vs.getD (i - o) undef else f i) := by
  induction vs with
  | nil => intro w f o h; exact h.ext fun i _ => by rw [if_neg (by simp only [List.length_nil]; omega)]
  | cons v r ih =>
    intro w f o h
    have := ih (w.setCell ⟨c, o, none⟩ v) (upd f o v) (o + 1) (h.set o v)
    refine Blk.ext this fun i _ => ?_
    by_cases hi : i = o
    · subst hi
      rw [if_neg (by omega), if_pos (by simp), upd_same]; simp
    · by_cases h2 : o + 1 ≤ i ∧ i < o + 1 + r.length
      · rw [if_pos h2, if_pos (by simp; omega), show i - o = (i - (o + 1)) + 1 by omega]; rfl
      · rw [if_neg h2, if_neg (by simp; omega), upd_other _ _ _ _ hi]

/-! ### A line -/
structure Cel where
  l : Ln
  ad : Option (Nat × Nat)
  cap : Nat

def slot (ad : Option (Nat × Nat)) : Option Addr := ad.map fun p => ⟨p.1, p.2, none⟩
def encAt (C : Cel) (j : Nat) : Value :=
  if j < 8 then .int .u64 (C.l.s j) else if j < 16 then .int .u64 (C.l.has (j - 8)) else if j = 16 then .slice (slot C.ad) C.l.t.length C.cap else .int .i64 (C.l.f (j - 17))
/-- The lines, one behind the other. -/
def encF (cs : Nat → Cel) (i : Nat) : Value := encAt (cs (i / 25)) (i % 25)
def putC (f : Nat → Value) (o : Nat) (C : Cel) : Nat → Value := fun i => if o ≤ i ∧ i < o + 25 then encAt C (i - o) else f i
theorem encF_at (cs : Nat → Cel) (k j : Nat) (hj : j < 25) : encF cs (k * 25 + j) = encAt (cs k) j := by
  unfold encF
  rw [show (k * 25 + j) / 25 = k by omega, show (k * 25 + j) % 25 = j by omega]
theorem putC_encF (cs : Nat → Cel) (k : Nat) (C : Cel) : putC (encF cs) (k * 25) C = encF (upd cs k C) := by
  funext i
  unfold putC encF
  by_cases h : k * 25 ≤ i ∧ i < k * 25 + 25
  · rw [if_pos h, show i / 25 = k by omega, upd_same, show i - k * 25 = i % 25 by omega]
  · rw [if_neg h, upd_other _ _ _ _ (by omega)]

/-- The stores of a line lie where its slice leads; its room is there. -/
def Row (T : TypeId) (w : World) (C : Cel) : Prop :=
  (C.ad = none ∧ C.cap = 0 ∧ C.l.t = []) ∨ ∃ g off cur, C.ad = some (g, off) ∧ w.heap[g]? = some (.cells cur T (0, 0)) ∧ off + C.cap * 2 ≤ cur.size ∧ C.l.t.length ≤ C.cap ∧ C.cap ≤ 9223372036854775807 ∧
    ∀ j (h : j < C.l.t.length), cur[off + j * 2]? = some (.int .i64 (C.l.t[j]).1) ∧ cur[off + j * 2 + 1]? = some (.int .u64 (C.l.t[j]).2)
def Cel.blk (C : Cel) : Option Nat := C.ad.map (·.1)

theorem Row.keeps {T : TypeId} {F : Nat → Prop} {w w' : World} {C : Cel} (h : Row T w C) (hk : Keeps F w w') (hc : ∀ g, C.blk = some g → ¬ F g) : Row T w' C := by
  rcases h with h | ⟨g, off, cur, h1, h2, h3⟩
  · exact Or.inl h
  · refine Or.inr ⟨g, off, cur, h1, ?_, h3⟩
    have hg : g < w.heap.size := by
      rcases Nat.lt_or_ge g w.heap.size with h' | h'
      · exact h'
      · simp [Array.getElem?_eq_none h'] at h2
    rw [hk.block g hg (hc g (by simp [Cel.blk, h1]))]; exact h2

end Go.Proofs.YtiafhcgaikapcaaGreat
