import Derived.Test.YtiafhcgaikapcaaGreatPkRlog
import Derived.Test.YtiafhcgaikapcaaGreatPkSort
import Derived.Test.YtiafhcgaikapcaaGreatPkCs
import Derived.Deep.Cut
import Derived.ArgAppend
import Derived.Test.YtiafhcgaikapcaaGreatRMem
import Derived.Deep.MidRow
import Derived.Test.YtiafhcgaikapcaaGreatOwn
import Derived.Test.YtiafhcgaikapcaaGreatFlat
import Derived.Test.YtiafhcgaikapcaaGreatLaw

/-
  rlog's Scan: the records of the logs, by rising numbers, in a row of the call's own; for whatever number of cores.
-/
namespace Go.Proofs.YtiafhcgaikapcaaGreat
open Go.ChangeShapes Go.WideShapes Go.ChangeAt Go.RowKit Go.Joins
set_option maxRecDepth 10000
set_option linter.unusedVariables false
set_option linter.unusedSimpArgs false

theorem info_rec : (Tryz.prog.info? 126).map (fun i => (i.zero, i.size, i.bytes)) = some (some (.agg (rv zr)), 4, 32) := by kernel_rfl
/-- What Scan's function has gathered: a row behind a slice that stands in the block B. -/
def ScanSt (base B : Nat) (rs : List Rc) (w : World) (C : Nat → Prop) : Prop :=
  ∃ v, (∀ k, C k ↔ k = B ∨ v.ownBlock = some k) ∧ w.heap[B]? = some (.cells #[v] 203 (0, 0)) ∧ w.ownsRow base 126 4 v rs.length (flatR rs) ∧ v.ownBlock ≠ some B
theorem owns_same {w w' : World} {base n : Nat} {v : Value} {xs : List Value} (h : w.ownsRow base 126 4 v n xs) (hs : ∀ k, v.ownBlock = some k → w'.heap[k]? = w.heap[k]?) : w'.ownsRow base 126 4 v n xs := by
  refine ⟨h.1, ?_⟩
  rcases h.2 with h' | ⟨g, cap, cur, rfl, h1, h2, h3⟩
  · exact Or.inl h'
  · exact Or.inr ⟨g, cap, cur, rfl, h1, (hs g rfl).trans h2, h3⟩
theorem scanSt_loc (base B : Nat) (rs : List Rc) : Loc (ScanSt base B rs) := fun w w' C ⟨v, h1, h2, h3, h4⟩ hs =>
  ⟨v, h1, (hs B ((h1 B).2 (Or.inl rfl))).trans h2, owns_same h3 (fun k hk => hs k ((h1 k).2 (Or.inr hk))), h4⟩
/-- append to a row of the call's own: the row it leaves lies in the same block, or in a new one. -/
theorem wpList_append_fresh {P : Program} (w : World) {ops : Array Oper} {rest : List Oper} {o : Oper} {a : Act} {Q : Exit → Act → World → Prop} (hgd : o.guard = none) (s x : Operand) (t : TypeId)
    (ho : o.op = .call { callee := .builtin .append, args := #[s, x], argTypes := #[t, t] })
    (base : Nat) (e : TypeId) (i : TypeInfo) (z : Value) (size bytes : Nat) (ht : P.underlying t = some (.slice e)) (hi : P.info? e = some i) (hz : i.zero = some z) (hsize : i.size = size) (hby : i.bytes = bytes) (hzs : z.cells.size = size) (hsz : 0 < size)
    (v : Value) (n : Nat) (xs : List Value) (hs : a.eval s = v) (hown : w.ownsRow base e size v n xs)
    (ad : Addr) (m c : Nat) (hm : 0 < m) (news : List Value) (hx : a.eval x = .slice (some ad) m c) (hl : news.length = m * size) (hnews : ∀ j u, news[j]? = some u → w.cell? (ad.add j) = some u) (h1 : ∀ u ∈ news, u.oneCell' = true)
    (h63 : n + m ≤ maxLen) (hbytes : (n + m) * bytes ≤ 140737488355328) (hbase : base ≤ w.heap.size)
    (h : ∀ v' w', w'.ownsRow base e size v' (n + m) (xs ++ news) → w.grownBy w' v.ownBlock → (∀ k, v'.ownBlock = some k → v.ownBlock = some k ∨ w.heap.size ≤ k) → wpList P ops Q rest (a.put o.dst v') w') : wpList P ops Q (o :: rest) a w := by
  have loose : ∀ {w' : World} {r : Option Nat}, w.grownBy w' none → w.grownBy w' r := fun hg => ⟨hg.os, hg.tape, hg.output, hg.size, fun k hk _ => hg.block k hk (by simp)⟩
  rcases hown.2 with ⟨rfl, rfl⟩ | ⟨g, cap, cur, rfl, hbg, hg, hnc, hcm, hcs, htake⟩
  · have hx0 : xs = [] := List.eq_nil_of_length_eq_zero (by simpa using hown.1)
    subst hx0
    refine wpList_append_grows w hgd s x t ho e i z size bytes ht hi hz hsize hby hzs hsz none 0 0 [] hs (fun _ => ⟨rfl, rfl⟩) (by simp) (by simp) ad m c news hx hl hnews h1 (by omega) h63 hbytes ?_
    intro v' w' ow gw
    exact h v' w' ⟨ow.1, ow.2.imp id fun ⟨g, cap, cur, q1, q2, q3⟩ => ⟨g, cap, cur, q1, Nat.le_trans hbase q2, q3⟩⟩ (loose gw) (fun k hk => Or.inr (ow.lt k hk).1)
  · by_cases hroom : n + m ≤ cap
    · subst hsize
      have hfit : n * i.size + news.length ≤ cur.size := by rw [hl, hcs, ← Nat.add_mul]; exact Nat.mul_le_mul_right _ hroom
      have hr := run_append_room (P := P) w t o.type e i ht hi g n cap cur hg ad m c news hl hnews h1 hroom hfit
      refine wpList_plain hgd fun K hK => ?_
      unfold Oper.wp execOp
      simp only [ho, resolve, invoke, builtin, Sem.run_bind, Sem.run_pure, Result.andThen_ok, List.map_toArray, List.map_cons, List.map_nil, hs, hx, hr]
      refine hK _ _ (h _ _ ⟨by rw [List.length_append, hown.1, hl, Nat.add_mul], Or.inr ⟨g, cap, _, rfl, hbg, setRow_heap w g cur _ e _ hg, hroom, hcm, ?_, ?_⟩⟩ ⟨rfl, rfl, rfl, by simp, fun k _ hk => setRow_other w g k _ (fun e => hk (by simp [Value.ownBlock, e]))⟩ (fun k hk => Or.inl hk))
      · simp only [List.size_toArray, List.length_append, List.length_take, List.length_drop, Array.length_toList]
        omega
      · rw [htake, show (n + m) * i.size = (xs ++ news).length by rw [List.length_append, hown.1, hl, Nat.add_mul]]
        exact List.take_left
    · refine wpList_append_grows w hgd s x t ho e i z size bytes ht hi hz hsize hby hzs hsz (some ⟨g, 0, none⟩) n cap xs hs (fun h => by simp at h) hown.1 (fun b hb j u hj => ?_) ad m c news hx hl hnews h1 (by omega) h63 hbytes ?_
      · cases hb
        exact hown.cells (g := g) rfl j u hj
      · intro v' w' ow gw
        exact h v' w' ⟨ow.1, ow.2.imp id fun ⟨g, cap, cur, q1, q2, q3⟩ => ⟨g, cap, cur, q1, Nat.le_trans hbase q2, q3⟩⟩ (loose gw) (fun k hk => Or.inr (ow.lt k hk).1)
/-- Blocks of the call's own are written, new ones are laid. -/
theorem Has.turn {W w w' : World} {G : Nat → Prop} {b : Nat} {A : Mm} (h : Has W w G b A) {P : Nat → Prop} (hP : ∀ k, P k → G k ∧ W.heap.size ≤ k) (hk : Keeps P w w') : Has W w' (fun k => G k ∨ (w.heap.size ≤ k ∧ k < w'.heap.size)) b A := by
  obtain ⟨F, c, cs, h1, h2, h3, h4⟩ := h
  refine ⟨F, c, cs, h1.keeps hk fun x hx e => (h4 x (hP x e).1).1 hx, ⟨hk.os.trans h2.os, hk.tape.trans h2.tape, hk.output.trans h2.output, Nat.le_trans h2.size hk.size, fun k hk' _ => ?_⟩, h3, fun k hk' => ?_⟩
  · rw [hk.block k (Nat.lt_of_lt_of_le hk' h2.size) (fun e => by have := (hP k e).2; omega)]; exact h2.block k hk' id
  · rcases hk' with hg | ⟨ha, hb⟩
    · exact ⟨(h4 k hg).1, Nat.lt_of_lt_of_le (h4 k hg).2 hk.size⟩
    · exact ⟨fun hf => by have := h1.lt k hf; omega, hb⟩
theorem scan_appended {W u w2 : World} {b : Nat} {A : Mm} {B : Nat} {rs : List Rc} {r : Rc} {v v' : Value} {G : Nat → Prop} (hV : VSt W b A (ScanSt W.heap.size B rs) u G) (hB : u.heap[B]? = some (.cells #[v] 203 (0, 0)))
    (hown : w2.ownsRow W.heap.size 126 4 v' (rs.length + 1) (flatR rs ++ (rv r).toList)) (hgrow : (u.alloc (.cells (rv r) 126)).grownBy w2 v.ownBlock) (hnew : ∀ k, v'.ownBlock = some k → v.ownBlock = some k ∨ u.heap.size ≤ k) :
    VSt W b A (ScanSt W.heap.size B (rs ++ [r])) (w2.setCell ⟨B, 0, none⟩ v') G ∧ Same G u (w2.setCell ⟨B, 0, none⟩ v') := by
  obtain ⟨D, g1, ⟨v0, gC, gB, gO, gN⟩, g3, g4⟩ := hV
  obtain rfl : v0 = v := by
    rw [gB] at hB
    simpa using hB
  have mB : D B := (gC B).2 (Or.inl rfl)
  have lB : B < u.heap.size := g1.lt B (Or.inr mB)
  have hK : Keeps (fun k => v0.ownBlock = some k) u w2 := ((Keeps.refl _ u).alloc (.cells (rv r) 126)).grown hgrow (fun k hk => Or.inl hk)
  have a1 := g1.turn (P := fun k => v0.ownBlock = some k) (fun k hk => ⟨Or.inr ((gC k).2 (Or.inr hk)), g4 k ((gC k).2 (Or.inr hk))⟩) hK
  have k1 : Keeps (· = B) w2 (w2.setCell ⟨B, 0, none⟩ v') := Keeps.setCell (F := (· = B)) (p := ⟨B, 0, none⟩) (Keeps.refl _ _) rfl _
  have a2 := a1.own (Or.inl (Or.inr mB)) (g4 B mB) k1
  have hBN : v'.ownBlock ≠ some B := fun e => by
    rcases hnew B e with h | h
    · exact gN h
    · omega
  have hsz : u.heap.size ≤ W.heap.size ∨ W.heap.size ≤ u.heap.size := by omega
  have hWu := g1.keeps.size
  have hlt' : ∀ k, v'.ownBlock = some k → W.heap.size ≤ k ∧ k < w2.heap.size := hown.lt
  have hB2 : w2.heap[B]? = some (.cells #[v0] 203 (0, 0)) := (hK.block B lB gN).trans gB
  refine ⟨⟨fun k => k = B ∨ v'.ownBlock = some k, a2.less (fun k hk => ?_), ⟨v', fun k => Iff.rfl, ?_, ?_, hBN⟩, fun k hk hc => ?_, fun k hk => ?_⟩, fun k hk => ?_⟩
  · rcases hk with hk | rfl | hk
    · exact Or.inl (Or.inl hk)
    · exact Or.inl (Or.inr mB)
    · rcases hnew k hk with h | h
      · exact Or.inl (Or.inr ((gC k).2 (Or.inr h)))
      · exact Or.inr ⟨h, (hlt' k hk).2⟩
  · rw [block_setCell hB2]; rfl
  · have e : flatR (rs ++ [r]) = flatR rs ++ (rv r).toList := by rw [flatR_append]; simp [flatR]
    rw [e, List.length_append]
    exact owns_same hown (fun k hk => heap_setCell_other _ _ _ _ (fun ek => hBN (by rw [hk, show k = B from ek])))
  · rcases hc with rfl | hc
    · exact g3 k hk mB
    · rcases hnew k hc with h | h
      · exact g3 k hk ((gC k).2 (Or.inr h))
      · have := g1.lt k (Or.inl hk); omega
  · rcases hk with rfl | hk
    · exact g4 k mB
    · exact (hlt' k hk).1
  · rw [heap_setCell_other w2 ⟨B, 0, none⟩ k v' (fun e => g3 k hk (by rw [show k = B from e]; exact mB))]
    exact hK.block k (g1.lt k (Or.inl hk)) (fun e => g3 k hk ((gC k).2 (Or.inr e)))
set_option maxHeartbeats 1000000 in
theorem scan_show {W w : World} {b : Nat} {A : Mm} {B : Nat} {rs : List Rc} (hn : rs.length ≤ 1000) (z : Int) (l : List Int) {G : Nat → Prop} (h : VSt W b A (ScanSt W.heap.size B rs) w G) :
    Calls Tryz.prog 194 (#[.int .i64 z, .agg (rv (readRV l)), .bool (isR l)] ++ #[.pointer (some ⟨B, 0, none⟩)]) w (Done (VSt W b A (ScanSt W.heap.size B (rs ++ recAt l))) w G (.tuple #[])) := by
  have hrec : recAt l = if isR l then [readRV l] else [] := rfl
  generalize readRV l = r at *
  generalize recAt l = ra at *
  have T := VSt.stay W b A (scanSt_loc W.heap.size B rs)
  obtain ⟨C, h1, ⟨v, hC, kB, kO, kN⟩, h3, h4⟩ := id h
  have lB : B < w.heap.size := h1.lt B (Or.inr ((hC B).2 (Or.inl rfl)))
  have hV : VSt W b A (ScanSt W.heap.size B rs) (w.alloc (.cells (rv r) 126)) G := T.ls _ _ _ (T.al _ _ _ h) (fun k hk => Or.inl hk)
  have hSG : Same G w (w.alloc (.cells (rv r) 126)) := fun k hk => Below.heap_alloc w _ k (h1.lt k (Or.inl hk))
  cases hi : isR l with
  | false =>
    rw [hi] at hrec
    simp only [Bool.false_eq_true, if_false] at hrec
    subst hrec
    have HV := hide hV
    have HG := hide hSG
    clear h h1 h3 h4 hC kB kO kN lB hi hV hSG
    go_enter Tryz.func194, Tryz.ntmps194
    go_wp2_with fail
    go_end0
    rw [List.append_nil]
    exact ⟨rfl, unhide HV, unhide HG⟩
  | true =>
    rw [hi] at hrec
    simp only [if_true] at hrec
    subst hrec
    obtain ⟨i0, hi0, hz0, hz1, hz2⟩ := info_parts info_rec
    obtain ⟨u, hu⟩ : ∃ u, u = w.alloc (.cells (rv r) 126) := ⟨_, rfl⟩
    have kU : u.heap[w.heap.size]? = some (.cells (rv r) 126 (0, 0)) := by rw [hu]; exact heap_new w _
    have uB : u.heap[B]? = some (.cells #[v] 203 (0, 0)) := by rw [hu, Below.heap_alloc w _ B lB]; exact kB
    have uO : u.ownsRow W.heap.size 126 4 v rs.length (flatR rs) := by rw [hu]; exact kO.alloc _
    have uS : w.heap.size < u.heap.size := by rw [hu]; simp
    rw [← hu] at hV hSG
    have cB : u.cell? ⟨B, 0, none⟩ = some v := by rw [cell_of_block uB]; rfl
    have s4 : (Tryz.prog.info? 126).map (·.size) = some (rv r).size := size4R
    have n4 := rv_new r 126
    have HU := hide hu
    have KU := hide kU
    have HN := hide hn
    have HB := hide uB
    have HKN := hide kN
    have hWu : W.heap.size ≤ u.heap.size := by have := h1.keeps.size; omega
    have X2 := hide (uO.alloc (.cells (rv r) 126))
    have HNW : Hid (∀ j x, (rv r).toList[j]? = some x → (u.alloc (.cells (rv r) 126)).cell? ((⟨u.heap.size, 0, none⟩ : Addr).add j) = some x) := fun j x hj => by
      rw [Addr.add_mid, cell_of_block (heap_new u _), Nat.zero_add]
      simpa using hj
    have HV := hide hV
    have HG := hide hSG
    have HW := hide hWu
    clear h h1 h3 h4 hC kB kO kN lB hi hV hSG kU uB uO uS hn hu
    go_enter Tryz.func194, Tryz.ntmps194
    go_upto_region 2 with fail
    rw [← unhide HU]
    obtain ⟨L, hL⟩ : ∃ L, L = w.heap.size := ⟨_, rfl⟩
    rw [← hL] at KU ⊢
    clear hL HU
    have z4 := rv_size r
    have f4 : Array.foldl (fun (cs : Array Value) (x : Value × Nat) => cs.setIfInBounds x.snd x.fst) #[.int .i64 0, .int .i64 0, .int .i64 0, .int .u64 0] (rv r).zipIdx 0 4 = rv r := by rfl
    have FIN : Hid (∀ v' w2, w2.ownsRow W.heap.size 126 4 v' (rs.length + 1) (flatR rs ++ (rv r).toList) → (u.alloc (.cells (rv r) 126)).grownBy w2 v.ownBlock → (∀ k, v'.ownBlock = some k → v.ownBlock = some k ∨ (u.alloc (.cells (rv r) 126)).heap.size ≤ k) →
        Hid (VSt W b A (ScanSt W.heap.size B (rs ++ [r])) (w2.setCell ⟨B, 0, none⟩ v') G ∧ Same G w (w2.setCell ⟨B, 0, none⟩ v')) ∧ w2.cell? ⟨B, 0, none⟩ = some v ∧ w2.frozen? ⟨B, 0, none⟩ = false ∧ ∃ g cap, v' = .slice (some ⟨g, 0, none⟩) (rs.length + 1) cap) := fun v' w2 q1 q2 q3 => by
      have lB : B < u.heap.size := by
        rcases Nat.lt_or_ge B u.heap.size with h' | h'
        · exact h'
        · have := unhide HB; rw [Array.getElem?_eq_none h'] at this; simp at this
      have hB2 : w2.heap[B]? = some (.cells #[v] 203 (0, 0)) := (q2.block B (by simp; omega) (fun e => unhide HKN e.symm)).trans ((Below.heap_alloc u _ B lB).trans (unhide HB))
      obtain ⟨r1, r2⟩ := scan_appended (unhide HV) (unhide HB) q1 q2 (fun k hk => (q3 k hk).imp id (fun h => by simp at h; omega))
      exact ⟨⟨r1, fun k hk => (r2 k hk).trans (unhide HG k hk)⟩, by rw [cell_of_block hB2]; rfl, unfrozen_of_block hB2 _, by
        rcases q1.2 with ⟨-, h0⟩ | ⟨g, cap, cur, e, -⟩
        · omega
        · exact ⟨g, cap, e⟩⟩
    have O1 : ∀ x ∈ (rv r).toList, x.oneCell' = true := fun x hx => flatR_one [r] x (by simp [flatR]; simpa using hx)
    have b1 : rs.length + 1 ≤ maxLen := by unfold maxLen; have := unhide HN; omega
    have b2 : (rs.length + 1) * 32 ≤ 140737488355328 := by have := unhide HN; omega
    have b3 : W.heap.size ≤ (u.alloc (.cells (rv r) 126)).heap.size := by have := unhide HW; simp; omega
    go_wp2_with (first | (with_reducible refine wpList_load_row (by with_unfolding_all rfl) 126 _ (by with_unfolding_all rfl) L (by with_unfolding_all rfl) _ _ _ _ (unhide KU) Tryz.underlying126 rfl s4 ?_) | (at_builtin; refine wpList_append_fresh _ rfl (.tmp 8) (.tmp 10) 203 rfl W.heap.size 126 i0 _ 4 32 Tryz.underlying203 hi0 hz0 hz1 hz2 rfl (by decide) v rs.length (flatR rs) rfl (unhide X2) ⟨u.heap.size, 0, none⟩ 1 1 (by decide) (rv r).toList rfl rfl (unhide HNW) O1 b1 b2 b3 ?_; intro v' w2 hown hgrow hnew; obtain ⟨HV2, cB2, fB2, g2, cap2, rfl⟩ := unhide FIN v' w2 hown hgrow hnew; clear hown hgrow hnew FIN))
    go_end0
    exact ⟨rfl, (unhide HV2).1, (unhide HV2).2⟩

/-! ### Scan -/
def isCores (z : Int) : Prop := 1 ≤ z ∧ z ≤ 8
instance (z : Int) : Decidable (isCores z) := by unfold isCores; infer_instance
def Mm.scanV (A : Mm) (z : Int) : List Rc := if isCores z ∧ A.on = true then sortR (A.recs (4 * z.toNat)) else []
def Mm.scanE (A : Mm) (z : Int) : Int := if isCores z then if A.on = true then 0 else 4 else 1
/-- A row of records behind a slice. -/
def RecSt (base : Nat) (v : Value) (rs : List Rc) (w : World) (C : Nat → Prop) : Prop := (∀ k, C k ↔ v.ownBlock = some k) ∧ w.ownsRow base 126 4 v rs.length (flatR rs)
theorem recSt_loc (base : Nat) (v : Value) (rs : List Rc) : Loc (RecSt base v rs) := fun w w' C ⟨h1, h2⟩ hs => ⟨h1, owns_same h2 (fun k hk => hs k ((h1 k).2 hk))⟩
theorem recSt_nil {W w : World} {b : Nat} {A : Mm} {G : Nat → Prop} (h : Has W w G b A) : VSt W b A (RecSt W.heap.size (.slice none 0 0) []) w G :=
  ⟨fun _ => False, h.less (fun k hk => hk.elim id False.elim), ⟨fun k => by simp [Value.ownBlock], World.ownsRow_nil _ _ _ _⟩, fun k _ hc => hc, fun k hk => hk.elim⟩
/-- Behind a Scan. -/
def Scanned (W w : World) (G : Nat → Prop) (b : Nat) (A : Mm) (rs : List Rc) (E : Int) (e : Ending) (w' : World) : Prop :=
  ∃ v, e = .returned (.tuple #[v, .int .i64 E]) ∧ VSt W b A (RecSt W.heap.size v rs) w' G ∧ Same G w w'
theorem scan_enters : ∀ args (W : World), Sem.run Tryz.prog (callFunc 194 args) W = .ok (.enter 194 args) W := fun args W => by kernel_rfl
theorem vst_start {W w : World} {b : Nat} {A : Mm} {G : Nat → Prop} (h : Has W w G b A) : VSt W b A (ScanSt W.heap.size w.heap.size []) (w.alloc (.cells #[.slice none 0 0] 203)) G ∧ Same G w (w.alloc (.cells #[.slice none 0 0] 203)) := by
  have hl := h.lt
  have hk := h.keeps.size
  refine ⟨⟨fun k => k = w.heap.size, (h.alloc _).less (fun k hk => hk.imp id id), ⟨.slice none 0 0, fun k => by simp [Value.ownBlock], heap_new w _, World.ownsRow_nil _ _ _ _, by simp [Value.ownBlock]⟩, fun k hk hc => ?_, fun k hk => ?_⟩, fun k hk => Below.heap_alloc w _ k (hl k hk)⟩
  · have := hl k hk; omega
  · omega
theorem scan_sorted {W w w' : World} {b : Nat} {A : Mm} {B : Nat} {rs rs' : List Rc} {v : Value} {G : Nat → Prop} (h : VSt W b A (ScanSt W.heap.size B rs) w G) (hB : w.heap[B]? = some (.cells #[v] 203 (0, 0))) (hk : Keeps (fun k => v.ownBlock = some k) w w') (ho : w'.ownsRow W.heap.size 126 4 v rs.length (flatR rs')) (hl : rs'.length = rs.length) :
    VSt W b A (RecSt W.heap.size v rs') w' G ∧ Same G w w' ∧ w'.heap[B]? = some (.cells #[v] 203 (0, 0)) := by
  obtain ⟨D, g1, ⟨v0, gC, gB, gO, gN⟩, g3, g4⟩ := h
  obtain rfl : v0 = v := by
    rw [gB] at hB
    simpa using hB
  have a1 := g1.turn (P := fun k => v0.ownBlock = some k) (fun k hk => ⟨Or.inr ((gC k).2 (Or.inr hk)), g4 k ((gC k).2 (Or.inr hk))⟩) hk
  have lB : B < w.heap.size := g1.lt B (Or.inr ((gC B).2 (Or.inl rfl)))
  refine ⟨⟨fun k => v0.ownBlock = some k, a1.less (fun k hk' => ?_), ⟨fun k => Iff.rfl, by rw [hl]; exact ho⟩, fun k hk' hc => g3 k hk' ((gC k).2 (Or.inr hc)), fun k hc => g4 k ((gC k).2 (Or.inr hc))⟩, fun k hk' => hk.block k (g1.lt k (Or.inl hk')) (fun e => g3 k hk' ((gC k).2 (Or.inr e))), (hk.block B lB gN).trans gB⟩
  exact hk'.elim (fun h => Or.inl (Or.inl h)) (fun h => Or.inl (Or.inr ((gC k).2 (Or.inr h))))
theorem scan_bad {W w : World} {G : Nat → Prop} {b : Nat} {A : Mm} (h : Has W w G b A) (z : Int) (hz : ¬ isCores z) : Calls Tryz.prog 168 #[.pointer (some ⟨b, 0, none⟩), .int .i64 z] w (Scanned W w G b A [] 1) := by
  have H := hide h
  clear h
  by_cases h1 : z < 1
  · go_enter Tryz.func168, Tryz.ntmps168
    go_wp2_with fail
    go_ret2
    exact ⟨_, rfl, recSt_nil (unhide H), fun _ _ => rfl⟩
  · have h8 : ¬ z ≤ 8 := fun h => hz ⟨by omega, h⟩
    go_enter Tryz.func168, Tryz.ntmps168
    go_wp2_with fail
    go_ret2
    exact ⟨_, rfl, recSt_nil (unhide H), fun _ _ => rfl⟩
theorem scan_off {W w : World} {G : Nat → Prop} {b : Nat} {A : Mm} (h : Has W w G b A) (hok : A.ok 1000) (hon : A.on = false) (n : Nat) (h1 : 1 ≤ n) (h8 : n ≤ 8) : Calls Tryz.prog 168 #[.pointer (some ⟨b, 0, none⟩), .int .i64 (n : Int)] w (Scanned W w G b A [] 4) := by
  have z1 : ¬ (n : Int) < 1 := by omega
  have z2 : (n : Int) ≤ 8 := by omega
  have z3 : (0 : Int) < (n : Int) := by omega
  have VS := hide (vst_start h)
  obtain ⟨w0, hw0⟩ : ∃ w0, w0 = w.heap.size := ⟨_, rfl⟩
  rw [← hw0] at VS
  have CV : Hid (∀ w G fv, VSt W b A (ScanSt W.heap.size w0 []) w G → Calls Tryz.prog 173 #[.pointer (some ⟨b, 0, none⟩), .int .i64 0, fv] w (Done (VSt W b A (ScanSt W.heap.size w0 [])) w G (.int .i64 4))) := fun w G fv h => visit_off hok hon 0 (by decide) (scanSt_loc _ _ _) fv h
  clear h hok hon
  go_enter Tryz.func168, Tryz.ntmps168
  go_upto_region 4 with fail
  rw [← hw0]
  clear hw0
  generalize w.alloc (.cells #[.slice none 0 0] 203) = u at *
  go_wp2_with fail
  go_loopw [16] (fun c wr => c = .int .i64 0 ∧ wr = u) (fun _ _ => 0)
  case atStart => exact ⟨rfl, rfl⟩
  case round =>
    obtain ⟨rfl, rfl⟩ := hrel
    go_wp2_with fail
    refine (unhide CV _ _ _ (unhide VS).1).mono ?_
    rintro e w1 ⟨rfl, q1, q2⟩
    have E1 := hide q1
    have E2 := hide q2
    clear q1 q2
    go_wp2_with fail
    go_ret2
    obtain ⟨C, g1, -, -, -⟩ := unhide E1
    exact ⟨_, rfl, recSt_nil (g1.less (fun k hk => Or.inl hk)), fun k hk => (unhide E2 k hk).trans ((unhide VS).2 k hk)⟩
theorem scan_on {W w : World} {G : Nat → Prop} {b : Nat} {A : Mm} (h : Has W w G b A) (hok : A.ok 1000) (hon : A.on = true) (n : Nat) (h1 : 1 ≤ n) (h8 : n ≤ 8) : Calls Tryz.prog 168 #[.pointer (some ⟨b, 0, none⟩), .int .i64 (n : Int)] w (Scanned W w G b A (sortR (A.recs (4 * n))) 0) := by
  have z1 : ¬ (n : Int) < 1 := by omega
  have z2 : (n : Int) ≤ 8 := by omega
  have VS := hide (vst_start h)
  obtain ⟨w0, hw0⟩ : ∃ w0, w0 = w.heap.size := ⟨_, rfl⟩
  rw [← hw0] at VS
  have CV : Hid (∀ c : Nat, c < 8 → ∀ w G, VSt W b A (ScanSt W.heap.size w0 (A.recs (4 * c))) w G → Calls Tryz.prog 173 #[.pointer (some ⟨b, 0, none⟩), .int .i64 (c : Int), .func (.func 194) #[] #[.pointer (some ⟨w0, 0, none⟩)]] w (Done (VSt W b A (ScanSt W.heap.size w0 (A.recs (4 * (c + 1))))) w G (.int .i64 0))) := fun c hc w G h =>
    visit_on hok hon c hc (fun j => ScanSt W.heap.size w0 (A.recs (4 * c + j))) (fun j => scanSt_loc _ _ _) _ _ scan_enters (fun j hj w G h => by
      have e : A.recs (4 * c + j) ++ recAt (A.rowN (2 + 4 * c + j)) = A.recs (4 * c + (j + 1)) := by
        show _ = A.recs (4 * c + j) ++ recAt (A.rowN (2 + (4 * c + j)))
        rw [Nat.add_assoc]
      have q := scan_show (z := ((2 + 4 * c + j : Nat) : Int)) (l := A.rowN (2 + 4 * c + j)) (by have := recs_len A (4 * c + j); omega) h
      rw [e] at q
      exact q) h
  have HL : Hid ((A.recs (4 * n)).length < 40) := by have := recs_len A (4 * n); show _ < _; omega
  clear h hok hon
  go_enter Tryz.func168, Tryz.ntmps168
  go_upto_region 4 with fail
  rw [← hw0]
  clear hw0
  generalize w.alloc (.cells #[.slice none 0 0] 203) = u at *
  go_wp2_with fail
  go_loopw [16] (fun c' wr => ∃ c : Nat, c ≤ n ∧ c' = .int .i64 c ∧ Aside (VSt W b A (ScanSt W.heap.size w0 (A.recs (4 * c))) wr G) ∧ Aside (Same G w wr)) (fun c' _ => n - (intOf c').toNat)
  case atStart => exact ⟨0, by omega, rfl, (unhide VS).1, (unhide VS).2⟩
  case round =>
    clear VS
    obtain ⟨c, hc, rfl, V1, S1⟩ := hrel
    by_cases hlt : c < n
    · have hltz : (c : Int) < (n : Int) := by omega
      go_wp2_with fail
      refine (unhide CV c (by omega) _ _ V1.out).mono ?_
      rintro e w1 ⟨rfl, q1, q2⟩
      have V2 : Aside (VSt W b A (ScanSt W.heap.size w0 (A.recs (4 * (c + 1)))) w1 G) := q1
      have S2 : Aside (Same G w w1) := S1.out.trans q2
      clear q1 q2 V1 S1
      go_wp2_with fail
      go_roundw
      case rel => exact ⟨c + 1, by omega, by go_num, V2, S2⟩
      case measure => simp [intOf]; omega
    · obtain rfl : c = n := by omega
      obtain ⟨D, g1, ⟨v, gC, gB, gO, gN⟩, g3, g4⟩ := V1.out
      have cB : wr.cell? ⟨w0, 0, none⟩ = some v := by rw [cell_of_block gB]; rfl
      have HB := hide gB
      have CS := hide (sort_row gO (unhide HL))
      clear g1 gC gB gO gN g3 g4
      go_wp2_with fail
      refine (unhide CS).mono ?_
      rintro e w1 ⟨rfl, q1, q2⟩
      obtain ⟨r1, r2, r3⟩ := scan_sorted V1.out (unhide HB) q2 q1 (sortR_len _)
      have cB2 : w1.cell? ⟨w0, 0, none⟩ = some v := by rw [cell_of_block r3]; rfl
      have R1 : Aside (VSt W b A (RecSt W.heap.size v (sortR (A.recs (4 * c)))) w1 G) := r1
      have R2 : Aside (Same G w w1) := S1.out.trans r2
      clear q1 q2 r1 r2 r3 V1 S1 HB CS cB
      go_wp2_with fail
      go_ret2
      exact ⟨v, rfl, R1.out, R2.out⟩
theorem Has.scanR {W w : World} {G : Nat → Prop} {b : Nat} {A : Mm} (h : Has W w G b A) (hok : A.ok 1000) (z : Int) :
    Calls Tryz.prog 168 #[.pointer (some ⟨b, 0, none⟩), .int .i64 z] w (Scanned W w G b A (A.scanV z) (A.scanE z)) := by
  unfold Mm.scanV Mm.scanE
  by_cases hz : isCores z
  · obtain ⟨n, rfl⟩ : ∃ n : Nat, z = (n : Int) := ⟨z.toNat, by have := hz.1; omega⟩
    have h1 : 1 ≤ n := by have := hz.1; omega
    have h8 : n ≤ 8 := by have := hz.2; omega
    rw [if_pos hz]
    cases hon : A.on with
    | true =>
      rw [if_pos ⟨hz, rfl⟩, if_pos rfl]
      exact scan_on h hok hon n h1 h8
    | false =>
      rw [if_neg (by simp), if_neg (by simp)]
      exact scan_off h hok hon n h1 h8
  · rw [if_neg (fun hh => hz hh.1), if_neg hz]
    exact scan_bad h z hz

end Go.Proofs.YtiafhcgaikapcaaGreat


/-
  Logs in plain mathematics: which line has which record; what an Append makes of it, whole or broken off; what is scanned.
-/
namespace Go.Proofs.YtiafhcgaikapcaaGreat
set_option maxRecDepth 10000
set_option linter.unusedVariables false

/-- The lines are sure; this line has this record, or none. -/
structure Log (A : Mm) (f : Nat → Option Rc) : Prop where
  on : A.on = true
  n : 64 ≤ A.n
  t : ∀ i, (A.l i).t = []
  is : ∀ i r, f i = some r → mayR r = true ∧ A.rowN i = lineR r
  no : ∀ i, f i = none → isR (A.rowN i) = false
def freeF (f : Nat → Option Rc) (c : Nat) (seq : Int) (j : Nat) : Bool := match f (2 + 4 * c + j) with
  | none => true
  | some r => decide (r.q ≤ seq)
def findF (f : Nat → Option Rc) (c : Nat) (seq : Int) : Option Nat := (List.range 4).find? (freeF f c seq)
def recsF (f : Nat → Option Rc) : Nat → List Rc
  | 0 => []
  | j + 1 => recsF f j ++ (f (2 + j)).toList
theorem log_new : Log (Mm.new 64 fun _ _ => 0) (fun _ => none) := ⟨rfl, by decide, fun _ => rfl, fun i r h => by simp at h, fun i _ => isR_nought _ (by unfold Mm.rowN; rw [rowOf_get _ 7 (by decide)]; rfl)⟩
theorem log_freeB {A : Mm} {f : Nat → Option Rc} (h : Log A f) (c : Nat) (seq : Int) (j : Nat) : A.freeB c seq j = freeF f c seq j := by
  unfold Mm.freeB freeF
  cases hf : f (2 + 4 * c + j) with
  | none => rw [h.no _ hf]; rfl
  | some r =>
    obtain ⟨h1, h2⟩ := h.is _ r hf
    rw [h2, isR_line r h1, readRV_line r h1]; rfl
theorem log_freeN {A : Mm} {f : Nat → Option Rc} (h : Log A f) (c : Nat) (seq : Int) : A.freeN c seq 4 = findF f c seq := by
  unfold Mm.freeN findF
  congr 1
  funext j
  exact log_freeB h c seq j
theorem log_freeE {A : Mm} {f : Nat → Option Rc} (h : Log A f) (c : Nat) (hc : c < 8) (seq : Int) : A.freeE (c : Int) seq = if (findF f c seq).isSome then 0 else 11 := by
  unfold Mm.freeE
  rw [if_pos ⟨by omega, by omega⟩, if_pos h.on, Int.toNat_natCast, log_freeN h]
theorem log_freeV {A : Mm} {f : Nat → Option Rc} (h : Log A f) (c : Nat) (hc : c < 8) (seq : Int) : A.freeV (c : Int) seq = firstV c (findF f c seq) := by
  unfold Mm.freeV
  rw [if_pos ⟨⟨by omega, by omega⟩, h.on⟩, Int.toNat_natCast, log_freeN h]
theorem log_recs {A : Mm} {f : Nat → Option Rc} (h : Log A f) : ∀ N, A.recs N = recsF f N
  | 0 => rfl
  | j + 1 => by
    unfold Mm.recs recsF recAt
    rw [log_recs h j]
    congr 1
    cases hf : f (2 + j) with
    | none => rw [h.no _ hf]; rfl
    | some r =>
      obtain ⟨h1, h2⟩ := h.is _ r hf
      rw [h2, isR_line r h1, readRV_line r h1]; rfl
/-- An Append to a log that has no line that is free. -/
theorem log_full {A : Mm} {f : Nat → Option Rc} (h : Log A f) (c : Nat) (hc : c < 8) (seq : Int) (r : Rc) (hf : findF f c seq = none) : A.appE (c : Int) seq r = 11 ∧ A.appZ (c : Int) seq r = A := by
  have he : A.freeE (c : Int) seq = 11 := by rw [log_freeE h c hc, hf]; rfl
  unfold Mm.appE Mm.appZ
  rw [if_neg (by rw [he]; decide), if_neg (by rw [he]; decide), he]
  exact ⟨rfl, rfl⟩
/-- What is written to a line of a memory whose lines are sure: whole, or its first stores. -/
theorem wroteR (A : Mm) (ht : ∀ i, (A.l i).t = []) (hn : 64 ≤ A.n) (core : Int) (hc : is8 core) (slot : Int) (k : Nat) (ek : slot = (k : Int)) (hk : k < 64) (l : List Int) : WroteInv A k l (A.wrZ core slot l) (A.wrE core slot l) ∧ (A.wrE core slot l = 0 → (A.wrZ core slot l).on = true) := by
  obtain ⟨m, h1, h2, h3⟩ := puts_inv A k l (ht k) 8 (Nat.le_refl _)
  have hz : is8 core ∧ (A.puts k l 8).isZ slot := ⟨hc, by unfold Mm.isZ; rw [puts_n]; omega⟩
  unfold Mm.wrZ Mm.wrE
  rw [show slot.toNat = k by omega]
  generalize A.puts k l 8 = P at *
  cases hon : P.on
  · rw [if_neg (by simp), if_neg (by simp)]
    exact ⟨⟨Or.inl ⟨m, h1, h2.s, h2.t, by decide⟩, fun i hi => by rw [h2.o i hi]; exact ⟨rfl, ht i⟩⟩, fun h => by simp at h⟩
  · have hm9 := h3 hon
    subst hm9
    rw [if_pos rfl, if_pos rfl]
    unfold Mm.flushE Mm.flushZ
    rw [if_pos hz, if_pos hz]
    have hfl : ((P.flush core.toNat slot.toNat).l k).s = (A.l k).s ∧ ((P.flush core.toNat slot.toNat).l k).t = stW l 8 ∧ (∀ i, i ≠ k → (P.flush core.toNat slot.toNat).l i = A.l i) ∧ (P.err = 0 → ((P.flush core.toNat slot.toNat).l k).f core.toNat = 9) := by
      unfold Mm.flush Mm.step
      rw [show slot.toNat = k by omega]
      have hT : (P.l k).t = stW l 8 := by rw [h2.t]; exact stW_take _ 8 8 (Nat.le_refl _)
      cases hmay : P.may
      · exact ⟨h2.s, hT, h2.o, fun he => by simp [Mm.err, hmay] at he⟩
      · refine ⟨?_, ?_, fun i hi => ?_, fun _ => ?_⟩
        · simp [Mm.stepped, upd, Ln.flush, h2.s]
        · simp [Mm.stepped, upd, Ln.flush, hT]
        · show upd P.l k _ i = _
          rw [upd_other _ _ _ _ hi]; exact h2.o i hi
        · show (upd P.l k _ k).f _ = _
          rw [upd_same]
          show upd _ _ _ _ = _
          rw [upd_same, hT, stW_len]
    generalize P.flush core.toNat slot.toNat = Q at *
    by_cases he : P.err = 0
    · rw [if_pos he, if_pos he]
      unfold Mm.fenceZ Mm.fenceE
      rw [if_pos hc, if_pos hc]
      unfold Mm.fence Mm.step Mm.err
      cases hmay : Q.may
      · exact ⟨⟨Or.inl ⟨9, by omega, hfl.1, by rw [show (9 : Nat) = 8 + 1 from rfl, stW_take _ 8 8 (Nat.le_refl _)]; exact hfl.2.1, by simp⟩, fun i hi => by
          show (Q.l i).s = _ ∧ (Q.l i).t = _
          rw [hfl.2.2.1 i hi]; exact ⟨rfl, ht i⟩⟩, fun h => by simp at h⟩
      · refine ⟨⟨Or.inr ⟨?_, ?_⟩, fun i hi => ?_⟩, fun _ => ?_⟩
        · show runS ((Q.l k).t.take ((Q.l k).f core.toNat)) (Q.l k).s = _
          rw [hfl.2.2.2 he, hfl.1, hfl.2.1, show (9 : Nat) = 8 + 1 from rfl, stW_take _ 8 8 (Nat.le_refl _)]
        · show (Q.l k).t.drop ((Q.l k).f core.toNat) = _
          rw [hfl.2.2.2 he, hfl.2.1]
          exact List.drop_eq_nil_of_le (by rw [stW_len]; exact Nat.le_refl _)
        · show runS ((Q.l i).t.take _) (Q.l i).s = _ ∧ (Q.l i).t.drop _ = _
          rw [hfl.2.2.1 i hi, ht i]; simp [runS]
        · show Q.on = true
          simp [Mm.may] at hmay; exact hmay.1
    · rw [if_neg he, if_neg he]
      exact ⟨⟨Or.inl ⟨9, by omega, hfl.1, by rw [show (9 : Nat) = 8 + 1 from rfl, stW_take _ 8 8 (Nat.le_refl _)]; exact hfl.2.1, he⟩, fun i hi => by rw [hfl.2.2.1 i hi]; exact ⟨rfl, ht i⟩⟩, fun h => absurd h he⟩
/-- With the power on and no fuse it is written whole. -/
theorem wrote_freeR (A : Mm) (hon : A.on = true) (hf : A.fuse = -1) (hn : 64 ≤ A.n) (core : Int) (hc : is8 core) (slot : Int) (k : Nat) (ek : slot = (k : Int)) (hk : k < 64) (l : List Int) : A.wrE core slot l = 0 ∧ (A.wrZ core slot l).fuse = -1 := by
  obtain ⟨h1, h2⟩ := puts_free A hon hf slot.toNat l 8
  have hz : is8 core ∧ (A.puts slot.toNat l 8).isZ slot := ⟨hc, by unfold Mm.isZ; rw [puts_n]; omega⟩
  unfold Mm.wrZ Mm.wrE
  generalize A.puts slot.toNat l 8 = P at *
  rw [if_pos h1, if_pos h1]
  unfold Mm.flushE Mm.flushZ
  rw [if_pos hz, if_pos hz]
  obtain ⟨-, g1, g2, g3⟩ := step_free P h1 h2 (upd P.l slot.toNat ((P.l slot.toNat).flush core.toNat))
  rw [if_pos g3, if_pos g3]
  unfold Mm.fenceZ Mm.fenceE
  rw [if_pos hc, if_pos hc]
  obtain ⟨-, k1, k2, k3⟩ := step_free (P.flush core.toNat slot.toNat) g1 g2 (fun i => ((P.flush core.toNat slot.toNat).l i).settle (((P.flush core.toNat slot.toNat).l i).f core.toNat))
  exact ⟨k3, k2⟩
theorem row_sure {A : Mm} {i : Nat} (h : (A.l i).t = []) : A.rowN i = rowOf (A.l i).s := by unfold Mm.rowN; rw [has_sure h]
/-- Behind an Append: done, and the record is there; or broken off, and behind whatever crash the line has the record, or none, or what it had. -/
theorem log_app {A : Mm} {f : Nat → Option Rc} (h : Log A f) (c : Nat) (hc : c < 8) (seq : Int) (r : Rc) (hm : mayR r = true) (j : Nat) (hf : findF f c seq = some j) :
    (A.appE (c : Int) seq r = 0 ∧ Log (A.appZ (c : Int) seq r) (upd f (2 + 4 * c + j) (some r))) ∨
    (A.appE (c : Int) seq r ≠ 0 ∧ ∀ keep, Log ((A.appZ (c : Int) seq r).crash keep) f ∨ Log ((A.appZ (c : Int) seq r).crash keep) (upd f (2 + 4 * c + j) (some r)) ∨ Log ((A.appZ (c : Int) seq r).crash keep) (upd f (2 + 4 * c + j) none)) := by
  have hj : j < 4 := by
    have := List.mem_of_find?_eq_some hf
    simpa using this
  have he : A.freeE (c : Int) seq = 0 := by rw [log_freeE h c hc, hf]; rfl
  have hv : A.freeV (c : Int) seq = ((2 + 4 * c + j : Nat) : Int) := by rw [log_freeV h c hc, hf]; rfl
  have e1 : A.appE (c : Int) seq r = A.wrE (c : Int) ((2 + 4 * c + j : Nat) : Int) (lineR r) := by simp only [Mm.appE, he, hm, if_true, hv, lineRV_may r hm]
  have e2 : A.appZ (c : Int) seq r = A.wrZ (c : Int) ((2 + 4 * c + j : Nat) : Int) (lineR r) := by simp only [Mm.appZ, he, hm, if_true, hv, lineRV_may r hm]
  rw [e1, e2]
  obtain ⟨⟨w1, w2⟩, w3⟩ := wroteR A h.t h.n (c : Int) ⟨by omega, by omega⟩ ((2 + 4 * c + j : Nat) : Int) (2 + 4 * c + j) rfl (by omega) (lineR r)
  have hnB := wrZ_n A (c : Int) ((2 + 4 * c + j : Nat) : Int) (lineR r)
  generalize 2 + 4 * c + j = k at *
  generalize A.wrE (c : Int) (k : Int) (lineR r) = E at *
  generalize A.wrZ (c : Int) (k : Int) (lineR r) = B at *
  have other : ∀ (D : Mm), (∀ i, i ≠ k → D.rowN i = A.rowN i) → ∀ o, (∀ i q, i ≠ k → upd f k o i = some q → mayR q = true ∧ D.rowN i = lineR q) ∧ (∀ i, i ≠ k → upd f k o i = none → isR (D.rowN i) = false) := fun D hD o => ⟨fun i q hi hq => by
      rw [upd_other _ _ _ _ hi] at hq
      rw [hD i hi]; exact h.is i q hq, fun i hi hq => by
      rw [upd_other _ _ _ _ hi] at hq
      rw [hD i hi]; exact h.no i hq⟩
  have mk : ∀ (D : Mm) (o : Option Rc), D.on = true → D.n = A.n → (∀ i, (D.l i).t = []) → (∀ i, i ≠ k → D.rowN i = A.rowN i) → (∀ q, o = some q → mayR q = true ∧ D.rowN k = lineR q) → (o = none → isR (D.rowN k) = false) → Log D (upd f k o) := fun D o d1 d2 d3 d4 d5 d6 => by
    obtain ⟨q1, q2⟩ := other D d4 o
    refine ⟨d1, by rw [d2]; exact h.n, d3, fun i q hq => ?_, fun i hq => ?_⟩
    · by_cases hi : i = k
      · subst hi; rw [upd_same] at hq; exact d5 q hq
      · exact q1 i q hi hq
    · by_cases hi : i = k
      · subst hi; rw [upd_same] at hq; exact d6 hq
      · exact q2 i hi hq
  by_cases hE : E = 0
  · left
    refine ⟨hE, ?_⟩
    obtain ⟨s1, s2⟩ : (B.l k).s = runS (stW (lineR r) 8) (A.l k).s ∧ (B.l k).t = [] := by
      rcases w1 with ⟨m, -, -, -, h'⟩ | h'
      · exact absurd hE h'
      · exact h'
    have ht : ∀ i, (B.l i).t = [] := fun i => by
      by_cases hi : i = k
      · rw [hi]; exact s2
      · exact (w2 i hi).2
    refine mk B (some r) (w3 hE) hnB ht (fun i hi => ?_) (fun q hq => ?_) (fun hq => by simp at hq)
    · rw [row_sure (ht i), row_sure (h.t i), (w2 i hi).1]
    · cases hq
      refine ⟨hm, ?_⟩
      rw [row_sure (ht k), s1]
      exact row_eight _ (lineR_len r) _
  · right
    refine ⟨hE, fun keep => ?_⟩
    have ct : ∀ i, ((B.crash keep).l i).t = [] := fun i => rfl
    have cn : (B.crash keep).n = A.n := hnB
    have co : ∀ i, i ≠ k → (B.crash keep).rowN i = A.rowN i := fun i hi => by
      rw [row_sure (ct i), row_sure (h.t i), crash_sure B keep i (w2 i hi).2, (w2 i hi).1]
    rcases w1 with ⟨m, hm9, s1, s2, -⟩ | ⟨s1, s2⟩
    · obtain ⟨q, hq, e⟩ := crash_s B keep k
      rw [s2, List.length_take, stW_len] at hq
      rw [s1, s2, List.take_take] at e
      have hrow : (B.crash keep).rowN k = rowOf (runS ((stW (lineR r) 8).take (min q m)) (A.l k).s) := by rw [row_sure (ct k), e]
      by_cases h9 : min q m = 9
      · right; left
        refine mk _ (some r) rfl cn ct co (fun x hx => ?_) (fun hx => by simp at hx)
        cases hx
        refine ⟨hm, ?_⟩
        rw [hrow, h9, show (9 : Nat) = 8 + 1 from rfl, stW_take _ 8 8 (Nat.le_refl _)]
        exact row_eight _ (lineR_len r) _
      · by_cases h0 : min q m = 0
        · left
          have hk : (B.crash keep).rowN k = A.rowN k := by
            rw [hrow, h0, List.take_zero, row_sure (h.t k)]; rfl
          have : f = upd f k (f k) := by
            funext i
            by_cases hi : i = k
            · rw [hi, upd_same]
            · rw [upd_other _ _ _ _ hi]
          rw [this]
          exact mk _ (f k) rfl cn ct co (fun x hx => by rw [hk]; exact h.is k x hx) (fun hx => by rw [hk]; exact h.no k hx)
        · right; right
          refine mk _ none rfl cn ct co (fun x hx => by simp at hx) (fun _ => ?_)
          refine isR_nought _ ?_
          obtain ⟨p, hp⟩ : ∃ p, min q m = p + 1 := ⟨min q m - 1, by omega⟩
          rw [hrow, hp, stW_take _ 8 p (by omega), rowOf_get _ 7 (by decide), run_stW _ _ p 7 (by omega), if_neg (by omega), if_pos rfl]
    · right; left
      refine mk _ (some r) rfl cn ct co (fun x hx => ?_) (fun hx => by simp at hx)
      cases hx
      refine ⟨hm, ?_⟩
      rw [row_sure (ct k), crash_sure B keep k s2, s1]
      exact row_eight _ (lineR_len r) _
/-- With no fuse it is done. -/
theorem log_done {A : Mm} {f : Nat → Option Rc} (h : Log A f) (hz : A.fuse = -1) (c : Nat) (hc : c < 8) (seq : Int) (r : Rc) (hm : mayR r = true) (j : Nat) (hf : findF f c seq = some j) :
    A.appE (c : Int) seq r = 0 ∧ Log (A.appZ (c : Int) seq r) (upd f (2 + 4 * c + j) (some r)) ∧ (A.appZ (c : Int) seq r).fuse = -1 := by
  have hj : j < 4 := by
    have := List.mem_of_find?_eq_some hf
    simpa using this
  have he : A.freeE (c : Int) seq = 0 := by rw [log_freeE h c hc, hf]; rfl
  have hv : A.freeV (c : Int) seq = ((2 + 4 * c + j : Nat) : Int) := by rw [log_freeV h c hc, hf]; rfl
  have e1 : A.appE (c : Int) seq r = A.wrE (c : Int) ((2 + 4 * c + j : Nat) : Int) (lineR r) := by simp only [Mm.appE, he, hm, if_true, hv, lineRV_may r hm]
  have e2 : A.appZ (c : Int) seq r = A.wrZ (c : Int) ((2 + 4 * c + j : Nat) : Int) (lineR r) := by simp only [Mm.appZ, he, hm, if_true, hv, lineRV_may r hm]
  obtain ⟨g1, g2⟩ := wrote_freeR A h.on hz h.n (c : Int) ⟨by omega, by omega⟩ ((2 + 4 * c + j : Nat) : Int) (2 + 4 * c + j) rfl (by omega) (lineR r)
  rcases log_app h c hc seq r hm j hf with ⟨k1, k2⟩ | ⟨k1, -⟩
  · exact ⟨k1, k2, by rw [e2]; exact g2⟩
  · exact absurd (by rw [e1]; exact g1) k1
/-- What is scanned. -/
theorem log_scan {A : Mm} {f : Nat → Option Rc} (h : Log A f) (n : Nat) (h1 : 1 ≤ n) (h8 : n ≤ 8) : A.scanE (n : Int) = 0 ∧ A.scanV (n : Int) = sortR (recsF f (4 * n)) := by
  unfold Mm.scanE Mm.scanV
  rw [if_pos ⟨by omega, by omega⟩, if_pos h.on, if_pos ⟨⟨by omega, by omega⟩, h.on⟩, Int.toNat_natCast, log_recs h]
  exact ⟨rfl, rfl⟩
theorem log_fused {A : Mm} {f : Nat → Option Rc} (h : Log A f) (z : Int) : Log (A.fused z) f := ⟨h.on, h.n, h.t, h.is, h.no⟩
theorem log_crash {A : Mm} {f : Nat → Option Rc} (h : Log A f) (keep : List Int) : Log (A.crash keep) f := by
  have ct : ∀ i, ((A.crash keep).l i).t = [] := fun i => rfl
  have co : ∀ i, (A.crash keep).rowN i = A.rowN i := fun i => by rw [row_sure (ct i), row_sure (h.t i), crash_sure A keep i (h.t i)]
  exact ⟨rfl, h.n, ct, fun i r hr => by rw [co]; exact h.is i r hr, fun i hr => by rw [co]; exact h.no i hr⟩

end Go.Proofs.YtiafhcgaikapcaaGreat


/-
  The document's examples, at the head of each statement of layer 6: they hold, and leave what was there as it was; '==' on records; a row of records, record by record.
-/
namespace Go.Proofs.YtiafhcgaikapcaaGreat
open Go.ChangeShapes Go.WideShapes Go.ChangeAt Go.RowKit Go.Joins
set_option maxRecDepth 10000
set_option linter.unusedVariables false
set_option linter.unusedSimpArgs false

/-! ### '==' on records -/
theorem rec_guard : Tryz.prog.eqGuardType Tryz.prog.depth 126 = false := by kernel_rfl
theorem rec_fields : ((Tryz.prog.fieldsOf 126).toList.map fun f => (decide (f.name = "_"), f.type, f.offset)) = [(false, 3, 0), (false, 3, 1), (false, 3, 2), (false, 52, 3)] := by kernel_rfl
theorem rec_eq (r t : Rc) : (r.q == t.q && (r.d == t.d && (r.o == t.o && (r.v == t.v && true)))) = decide (r = t) := by
  obtain ⟨a, b, c, d⟩ := r
  obtain ⟨a', b', c', d'⟩ := t
  by_cases h1 : a = a'
  · by_cases h2 : b = b'
    · by_cases h3 : c = c'
      · by_cases h4 : d = d' <;> simp [h1, h2, h3, h4]
      · simp [h1, h2, h3]
    · simp [h1, h2]
  · simp [h1]
theorem equal_rec (r t : Rc) (w : World) : (Op.equalIn 10000 126 (.agg (rv r)) (.agg (rv t))).run Tryz.prog w = .ok (decide (r = t)) w := by
  rw [run_equalIn_struct w 9999 126 _ _ (by kernel_rfl) (by kernel_rfl)]
  have hf := rec_fields
  generalize (Tryz.prog.fieldsOf 126).toList = fs at hf
  have hl : fs.length = 4 := by have := congrArg List.length hf; simpa using this
  match fs, hl, hf with
  | [f0, f1, f2, f3], _, hf =>
    simp only [List.map_cons, List.map_nil, List.cons.injEq, Prod.mk.injEq, decide_eq_false_iff_not, and_true] at hf
    obtain ⟨⟨a0, b0, c0⟩, ⟨a1, b1, c1⟩, ⟨a2, b2, c2⟩, ⟨a3, b3, c3⟩⟩ := hf
    rw [← rec_eq]
    refine run_eqField w 9998 _ _ f0 _ .i64 r.q t.q a0 (by rw [b0]; exact Tryz.underlying3) (by rw [c0]; rfl) (by rw [c0]; rfl) _ ?_
    refine run_eqField w 9998 _ _ f1 _ .i64 r.d t.d a1 (by rw [b1]; exact Tryz.underlying3) (by rw [c1]; rfl) (by rw [c1]; rfl) _ ?_
    refine run_eqField w 9998 _ _ f2 _ .i64 r.o t.o a2 (by rw [b2]; exact Tryz.underlying3) (by rw [c2]; rfl) (by rw [c2]; rfl) _ ?_
    refine run_eqField w 9998 _ _ f3 _ .u64 r.v t.v a3 (by rw [b3]; exact Tryz.underlying52) (by rw [c3]; rfl) (by rw [c3]; rfl) _ ?_
    simp [Op.eqFields]

/-! ### A row of records, record by record -/
theorem owns_open {w : World} {base : Nat} {v : Value} {rs : List Rc} (h : w.ownsRow base 126 4 v rs.length (flatR rs)) : ∃ p cap, v = .slice p rs.length cap ∧ ∀ i, i < rs.length → ∃ g, p = some ⟨g, 0, none⟩ ∧ v.ownBlock = some g ∧ w.rangeAt g (i * 4) (rv (rs.getD i zr)).toList := by
  rcases h.2 with ⟨rfl, h0⟩ | ⟨g, cap, cur, rfl, hb, hg, hrest⟩
  · exact ⟨none, 0, by rw [h0], fun i hi => by omega⟩
  · refine ⟨some ⟨g, 0, none⟩, cap, rfl, fun i hi => ⟨g, rfl, rfl, fun j u hj => ?_⟩⟩
    have hj4 : j < 4 := by
      rcases Nat.lt_or_ge j 4 with h' | h'
      · exact h'
      · rw [List.getElem?_eq_none (by simpa [rv] using h')] at hj; simp at hj
    rw [h.cellAt (i * 4 + j) (by omega), flatR_get rs i j hi hj4]
    simpa using hj
theorem VSt.after {W w : World} {b : Nat} {A A' : Mm} {R : World → (Nat → Prop) → Prop} (hR : Loc R) {G : Nat → Prop} {f : FuncId} {args : Array Value} {v : Value} (h : VSt W b A R w G)
    (hc : ∀ G, Has W w G b A → Calls Tryz.prog f args w (After W w G b A' v)) : Calls Tryz.prog f args w (Done (VSt W b A' R) w G v) := by
  obtain ⟨C, h1, h2, h3, h4⟩ := h
  exact (hc _ h1).mono fun e w' ⟨he, hh, hs⟩ => ⟨he, ⟨C, hh, hR _ _ _ h2 (fun k hk => hs k (Or.inr hk)), h3, h4⟩, fun k hk => hs k (Or.inl hk)⟩
theorem wpList_load_mid_r {P : Program} {ops : Array Oper} {rest : List Oper} {op : Oper} {a : Act} {w : World} {Q : Exit → Act → World → Prop} (hw : Region.wanted op (yielded ops a.tmps) = true) (ty : TypeId) (x : Operand) (ho : op.op = .load ty x)
    (b o : Nat) (hx : a.eval x = .pointer (some ⟨b, o, none⟩)) (cs : List Value) (d : TypeDesc) (hc : w.rangeAt b o cs) (hu : P.underlying ty = some d) (hd : d.isRow = true) (hi : (P.info? ty).map (·.size) = some cs.length)
    (h : wpList P ops Q rest (a.put op.dst (.agg cs.toArray)) w) : wpList P ops Q (op :: rest) a w :=
  wpList_step fun K hK => by
    rw [if_pos hw]
    exact wp_load_mid ty x ho b o hx cs d hc hu hd hi (hK _ _ h)

/-! ### The examples -/

end Go.Proofs.YtiafhcgaikapcaaGreat


/-
  The arguments of the statements of layer 6: records and lines by value.
-/
namespace Go.Proofs.YtiafhcgaikapcaaGreat
open Go.ChangeShapes Go.WideShapes Go.ChangeAt Go.RowKit Go.Joins
set_option maxRecDepth 100000

/-- A whole value built of nothing, behind a guard that says yes. -/
theorem wpList_build0r {P : Program} {ops : Array Oper} {rest : List Oper} {o : Oper} {a : Act} {w : World} {Q : Exit → Act → World → Prop} (hw : Region.wanted o (yielded ops a.tmps) = true) (t : TypeId) (ho : o.op = .build t #[]) (cs : Array Value) (hb : P.built t [] = some cs)
    (h : wpList P ops Q rest (a.put o.dst (.agg cs)) w) : wpList P ops Q (o :: rest) a w :=
  wpList_step fun K hK => by
    rw [if_pos hw]
    unfold Oper.wp execOp
    simp only [ho, Sem.run_bind, Array.map_empty, run_build w t #[] cs hb, Result.andThen_ok]
    exact hK _ _ h
def IsRec (r : Rc) : Prop := (Lit.int .i64 r.q).wf = true ∧ (Lit.int .i64 r.d).wf = true ∧ (Lit.int .i64 r.o).wf = true ∧ (Lit.int .u64 r.v).wf = true
def IsLineR (l : List Int) : Prop := l.length = 8 ∧ ∀ z ∈ l, (Lit.int .u64 z).wf = true
theorem isRec_ok {r : Rc} (h : IsRec r) : r.ok := by
  have := h.2.2.2
  simp [Lit.wf, IntKind.min, IntKind.max, IntKind.signed, IntKind.bits] at this
  exact ⟨by omega, by omega⟩
theorem fit_rec : ∀ (vs : List Value), AllFit [some .i64, some .i64, some .i64, some .u64] vs → ∃ r : Rc, vs = (rv r).toList ∧ IsRec r
  | [], h => by simp [AllFit] at h
  | [_], h => by simp [AllFit] at h
  | [_, _], h => by simp [AllFit] at h
  | [_, _, _], h => by simp [AllFit] at h
  | [a, b, c, d], h => by
    obtain ⟨h1, h2, h3, h4, -⟩ := h
    obtain ⟨x, rfl, w1⟩ := h1
    obtain ⟨y, rfl, w2⟩ := h2
    obtain ⟨z, rfl, w3⟩ := h3
    obtain ⟨u, rfl, w4⟩ := h4
    exact ⟨⟨x, y, z, u⟩, rfl, w1, w2, w3, w4⟩
  | _ :: _ :: _ :: _ :: _ :: _, h => by simp [AllFit] at h
theorem open_rec {H : Type} {enc : TypeId × Value → H} {W : World} {r : Reach} {b0 base : Nat} {sp : Nat → Bool} {hd : Bool} {v : Value} {d : DataW H} {p : List MemPlace}
    (hv : Value.okWide Tryz.prog W r b0 126 v) (h : DataW.Trod enc Tryz.prog W base sp hd 126 v d p) : ∃ x : Rc, v = .agg (rv x) ∧ IsRec x := by
  obtain ⟨cs, rfl, hfit⟩ := flat_open 3 (ks := [some .i64, some .i64, some .i64, some .u64]) (by kernel_rfl) (Or.inl ⟨_, Tryz.underlying126⟩) hv h
  obtain ⟨x, hx, hw⟩ := fit_rec cs.toList hfit
  refine ⟨x, ?_, hw⟩
  congr 1
  rw [← Array.toArray_toList (xs := cs), hx]
theorem open_lineR {H : Type} {enc : TypeId × Value → H} {W : World} {r : Reach} {b0 base : Nat} {sp : Nat → Bool} {hd : Bool} {v : Value} {d : DataW H} {p : List MemPlace}
    (hv : Value.okWide Tryz.prog W r b0 83 v) (h : DataW.Trod enc Tryz.prog W base sp hd 83 v d p) : ∃ zs : List Int, v = .agg (iv .u64 zs) ∧ IsLineR zs := by
  obtain ⟨cs, rfl, hfit⟩ := flat_open 3 (ks := List.replicate 8 (some .u64)) (by kernel_rfl) (Or.inr ⟨_, _, Tryz.underlying83⟩) hv h
  obtain ⟨zs, hl, hz, hw⟩ := allFit_ints .u64 8 cs.toList hfit
  exact ⟨zs, by rw [iv, ← hz], hl, hw⟩
theorem infoLR {zs : List Int} (h : zs.length = 8) : (Tryz.prog.info? 83).map (·.size) = some (iv .u64 zs).size := by rw [iv_size, h]; exact size8
theorem Keeps.asBelow {W w : World} (h : Keeps (fun _ => False) W w) : Below W.heap.size W w := h.below (Nat.le_refl _) (fun _ hk => hk.elim)

end Go.Proofs.YtiafhcgaikapcaaGreat
