import Derived.Test.YtiafhcgaikapcaaGreatPkTel
import Derived.Test.YtiafhcgaikapcaaGreatOwn
import Derived.Test.YtiafhcgaikapcaaGreatPkSto
import Derived.Test.YtiafhcgaikapcaaGreatPkUn
import Derived.Test.YtiafhcgaikapcaaGreatPkCh

/-
  The statements' kind, table and dir (steadfastlaw10).
-/
namespace Go.Proofs.YtiafhcgaikapcaaGreat
open Go.ChangeShapes Go.WideShapes Go.ChangeAt Go.RowKit Go.Joins
set_option maxRecDepth 10000
set_option linter.unusedVariables false
set_option linter.unusedSimpArgs false

theorem otmod_neg (z : Int) (hz : z < 0) (n : Int) (hn : 0 < n) : -((z + 1).tmod n) = (((-(z + 1)) % n).toNat : Int) := by
  rw [← Int.neg_tmod, Int.tmod_eq_emod_of_nonneg (by omega)]
  have := Int.emod_nonneg (-(z + 1)) (show n ≠ 0 by omega)
  omega
theorem otmod_pos (z : Int) (hz : 0 ≤ z) (n : Int) (hn : 0 < n) : z.tmod n = ((z % n).toNat : Int) := by
  rw [Int.tmod_eq_emod_of_nonneg hz]
  have := Int.emod_nonneg z (show n ≠ 0 by omega)
  omega
theorem oemod_toNat (z : Int) (n : Int) (hn : 0 < n) : z % n = ((z % n).toNat : Int) := by
  have := Int.emod_nonneg z (show n ≠ 0 by omega)
  omega
theorem oret_int {k : IntKind} {a b : Int} (h : a = b) : Ending.returned (.int k a) = .returned (.int k b) := by rw [h]
/-- The statements' Dir: the lines 10 to 17. -/
def dirF (i : Nat) : Int := 10 + (i : Int)
def dirU (j : Nat) : Nat → Int := fun i => if i < j then dirF i else 0
theorem zero_dir8 : (Tryz.prog.info? 44).map (·.zero) = some (some (.agg (dirV (dirU 0)))) := by kernel_rfl
theorem built_dir8 : Tryz.prog.built 44 [] = some (dirV (dirU 0)) := by kernel_rfl
theorem s8_dir8 (d : Nat → Int) : (Tryz.prog.info? 44).map (·.size) = some (dirV d).size := by rw [dirV_size]; kernel_rfl
theorem dirV_cell (d : Nat → Int) (i : Nat) (h8 : i < 8) : (dirV d)[i]? = some (.int .i64 (d i)) := by
  have := congrArg (fun l => l[i]?) (dirV_list d)
  simp only [Array.getElem?_toList] at this
  rw [this, List.getElem?_map, List.getElem?_range h8]; rfl
theorem dirV_ext {d d' : Nat → Int} (h : ∀ i, i < 8 → d i = d' i) : dirV d = dirV d' := by
  unfold dirV; congr 1; unfold dirTo8
  exact List.map_congr_left fun i hi => h i (List.mem_range.1 hi)
theorem dirV_set (d : Nat → Int) (i : Nat) (v : Int) : (dirV d).setIfInBounds i (.int .i64 v) = dirV (upd d i v) := by
  unfold dirV
  rw [iv_set]
  congr 1
  unfold dirTo8
  apply List.ext_getElem?
  intro j
  rw [List.getElem?_set]
  by_cases hj : j < 8
  · rw [List.getElem?_map, List.getElem?_map, List.getElem?_range hj]
    by_cases e : i = j
    · subst e; rw [if_pos rfl, if_pos (by simpa using hj)]; simp [upd]
    · rw [if_neg e]; simp [upd, show ¬ j = i from fun q => e q.symm]
  · by_cases e : i = j
    · subst e; rw [if_pos rfl, if_neg (by simpa using hj), List.getElem?_eq_none (by simpa using hj)]
    · rw [if_neg e, List.getElem?_eq_none (by simpa using hj), List.getElem?_eq_none (by simpa using hj)]
theorem dirU_next (j : Nat) : upd (dirU j) j (10 + (j : Int)) = dirU (j + 1) := by
  funext i; unfold upd dirU dirF
  by_cases e : i = j
  · rw [if_pos e, if_pos (by omega), e]
  · rw [if_neg e]
    by_cases h : i < j
    · rw [if_pos h, if_pos (by omega)]
    · rw [if_neg h, if_neg (by omega)]
theorem dirU_all : dirV (dirU 8) = dirV dirF := dirV_ext fun i hi => if_pos hi

/-- A cell of the first block of the call's own is written. -/
theorem own_cell {W w : World} {L : List (Nat × Obj)} {g : Nat} {ds : Array Value} {t : TypeId} (h : Own W w ((g, .cells ds t (0, 0)) :: L)) (hW : W.heap.size ≤ g) (hne : ∀ p ∈ L, p.1 ≠ g) (i : Nat) (v : Value) : Own W (w.setCell ⟨g, i, none⟩ v) ((g, .cells (ds.setIfInBounds i v) t (0, 0)) :: L) :=
  ⟨h.1.setCell (p := ⟨g, i, none⟩) hW v, fun p hp => by
    rcases List.mem_cons.1 hp with rfl | hp
    · exact block_setCell (h.2 _ List.mem_cons_self) v
    · rw [Below.heap_setCell _ _ _ _ (hne p hp)]; exact h.2 p (List.mem_cons_of_mem _ hp)⟩
/-- The statements' table of n objects. -/
def tblF (n : Nat) (i : Nat) : En := if i < n then ⟨1 + (i : Int) % 4, (i : Int), 20 + (i : Int)⟩ else ze
theorem zero_tab9 : (Tryz.prog.info? 42).map (·.zero) = some (some (.agg (tabV (tblF 0)))) := by kernel_rfl
theorem built_tab9 : Tryz.prog.built 42 [] = some (tabV (tblF 0)) := by kernel_rfl
theorem s147_tab9 (f : Nat → En) : (Tryz.prog.info? 42).map (·.size) = some (tabV f).size := by rw [tabV_size]; kernel_rfl
theorem tblF_next (j : Nat) : (fun i => if i = j then En.mk (1 + (j : Int) % 4) (j : Int) (20 + (j : Int)) else tblF j i) = tblF (j + 1) := by
  funext i
  unfold tblF
  by_cases e : i = j
  · rw [if_pos e, if_pos (by omega), e]
  · rw [if_neg e]
    by_cases h : i < j
    · rw [if_pos h, if_pos (by omega)]
    · rw [if_neg h, if_neg (by omega)]
theorem own_put3 {W w : World} {L : List (Nat × Obj)} {g : Nat} {f : Nat → En} {t : TypeId} (h : Own W w ((g, .cells (tabV f) t (0, 0)) :: L)) (hW : W.heap.size ≤ g) (hne : ∀ p ∈ L, p.1 ≠ g) (j : Nat) (hj : j < 49) (c : En) : Own W (w.setCells g (j * 3) (ev c).toList) ((g, .cells (tabV (fun i => if i = j then c else f i)) t (0, 0)) :: L) :=
  ⟨below_put3 h.1 hW _ c, fun p hp => by
    rcases List.mem_cons.1 hp with rfl | hp
    · have := block_put3 (rowE 49 f) (h.2 _ List.mem_cons_self) j c
      rw [put3_row 49 f j c hj] at this
      exact this
    · rw [heap_put3 (hne p hp) _ c]; exact h.2 p (List.mem_cons_of_mem _ hp)⟩

end Go.Proofs.YtiafhcgaikapcaaGreat


/-
  Stores and memories stay such, whatever is called. No program.
-/
namespace Go.Proofs.YtiafhcgaikapcaaGreat
set_option linter.unusedVariables false

theorem setM_ok {S : Sto} {A : Mm} {B : Nat} (h : A.ok B) (z q v : Int) (hv : InU v) : (S.setM A z q v).ok (B + 8) := by
  unfold Sto.setM
  split
  · split
    · exact ok_mono (ok_storeZ h _ q v hv) (by omega)
    · split
      · exact layM_ok h _ (copy_inU h S z q v hv)
      · exact ok_mono h (by omega)
  · exact ok_mono h (by omega)
theorem makeM_ok {S : Sto} {A : Mm} {B : Nat} (h : A.ok B) (z : Int) : (S.makeM A z).ok (B + 8) := by
  unfold Sto.makeM
  split
  · exact layM_ok h _ (fun j => by show InU 0; exact ⟨by decide, by decide⟩)
  · exact ok_mono h (by omega)
theorem setM_n (S : Sto) (A : Mm) (z q v : Int) : (S.setM A z q v).n = A.n := by
  unfold Sto.setM
  split
  · split
    · exact storeZ_n _ _ _ _
    · split
      · exact layM_n _ _ _
      · rfl
  · rfl
theorem makeM_n (S : Sto) (A : Mm) (z : Int) : (S.makeM A z).n = A.n := by
  unfold Sto.makeM
  split
  · exact layM_n _ _ _
  · rfl
theorem ofS_ok {F : Fr} (h : F.ok) {t : Nat → En} (ht : ∀ i, i < 49 → v24 (t i).v) (d : Nat → Int) : (ofS F t d).ok := ⟨takeL_ok _ h, ht⟩
theorem new0_ok (n : Nat) (h1 : 64 ≤ n) (h2 : n ≤ 1024) : (Mm.new n fun _ _ => 0).ok 0 := ok_new h1 h2 fun _ _ => ⟨by decide, by decide⟩

end Go.Proofs.YtiafhcgaikapcaaGreat


/-
  The document's examples (steadfastlaw10.shown).
-/
namespace Go.Proofs.YtiafhcgaikapcaaGreat
open Go.ChangeShapes Go.WideShapes Go.ChangeAt Go.RowKit Go.Joins
set_option maxRecDepth 100000
set_option linter.unusedVariables false
set_option linter.unusedSimpArgs false

def oA0 : Mm := Mm.new 80 fun _ _ => 0
def ot0 : Nat → En := fun i => if i = 0 then ⟨1, 0, 20⟩ else tblF 0 i
def oS0 : Sto := ofS (Fr.new 10 80) ot0 dirF
def oS1 : Sto := oS0.setS oA0 0 3 7
def oA1 : Mm := oS0.setM oA0 0 3 7
def oS2 : Sto := oS1.setS oA1 0 4 8
def oA2 : Mm := oS1.setM oA1 0 4 8
def oL : Nat → Int := fun j => if j = 3 then 7 else if j = 4 then 8 else 0
theorem of_0 : ofB (Fr.new 10 80) ot0 dirF = true := by decide +kernel
theorem set_1 : oS0.setE oA0 0 3 7 = 0 := by decide +kernel
theorem set_2 : oS1.setE oA1 0 4 8 = 0 := by decide +kernel
theorem line_1 : oS1.w 0 = ⟨1, 0, 18⟩ := by decide +kernel
theorem line_2 : oS2.w 0 = ⟨1, 0, 18⟩ := by decide +kernel
theorem get_2 : oS2.getE oA2 0 = 0 := by decide +kernel
theorem has_2 : ∀ j, j < 8 → oA2.hasZ 18 j = oL j := by decide +kernel
theorem make_2 : oS2.makeE oA2 3 = 1 ∧ oS2.makeI oA2 3 = 0 ∧ oS2.nextE 3 = 1 := by decide +kernel
theorem next_2 : oS2.nextE 1 = 0 ∧ oS2.nextI 1 = 1 ∧ oS2.nextV 1 = 0 := by decide +kernel
theorem tblF_v24 (n : Nat) : ∀ i, i < 49 → v24 (tblF n i).v := fun i hi => by
  unfold tblF
  split
  · exact ⟨by show (0 : Int) ≤ (i : Int); omega, by show (i : Int) ≤ 16777215; omega⟩
  · show v24 0; exact ⟨by decide, by decide⟩
theorem tabV_cell (f : Nat → En) (j : Nat) (h : j < 147) : (tabV f)[j]? = some (.int .i64 (fl3 f j)) := by
  have := congrArg (fun l => l[j]?) (tabV_list f)
  simp only [Array.getElem?_toList] at this
  rw [this, List.getElem?_map, List.getElem?_range h]; rfl
theorem obV_cell (k v : Int) (f : Nat → Int) (j : Nat) (h : j < 8) : (obV k v f)[2 + j]? = some (.int .u64 (f j)) := by
  unfold obV
  rw [Array.getElem?_append]
  rw [if_neg (by simp)]
  have : 2 + j - #[Value.int .i64 k, Value.int .i64 v].size = j := by simp
  rw [this]; exact lnV_get f j h
theorem ot0_v24 : ∀ i, i < 49 → v24 (ot0 i).v := fun i hi => by
  unfold ot0
  split
  · show v24 0; exact ⟨by decide, by decide⟩
  · exact tblF_v24 0 i hi
theorem oS0_ok : oS0.ok := ofS_ok (new_ok (by decide) (by decide)) ot0_v24 _
theorem oS1_ok : oS1.ok := setS_ok oS0_ok _ _ _ _
theorem oS2_ok : oS2.ok := setS_ok oS1_ok _ _ _ _
theorem oA0_ok : oA0.ok 0 := new0_ok 80 (by decide) (by decide)
theorem oA1_ok : oA1.ok 8 := setM_ok oA0_ok _ _ _ ⟨by decide, by decide⟩
theorem oA2_ok : oA2.ok 16 := setM_ok oA1_ok _ _ _ ⟨by decide, by decide⟩
theorem make_S2 : oS2.makeS oA2 3 = oS2 := by unfold Sto.makeS; rw [if_neg (by rw [make_2.2.2]; decide)]
theorem make_M2 : oS2.makeM oA2 3 = oA2 := by unfold Sto.makeM; rw [if_neg (by rw [make_2.2.2]; decide)]
theorem built_oL : Tryz.prog.built 83 [(3, .int .u64 7), (4, .int .u64 8)] = some (lnV oL) := by kernel_rfl
theorem get_V2 : oS2.getV oA2 0 = obV 1 0 oL := by
  have hl : oS2.line 0 = 18 := by decide +kernel
  unfold Sto.getV
  rw [if_pos get_2, hl, show oS2.w (0 : Int).toNat = ⟨1, 0, 18⟩ from line_2]
  unfold obV
  rw [show lnV (oA2.hasZ 18) = lnV oL from tab_ext fun j hj => by rw [has_2 j hj]]

theorem wpList_load_mid_w {P : Program} {ops : Array Oper} {rest : List Oper} {op : Oper} {a : Act} {w : World} {Q : Exit → Act → World → Prop} (hw : Region.wanted op (yielded ops a.tmps) = true) (ty : TypeId) (x : Operand) (ho : op.op = .load ty x)
    (b o : Nat) (hx : a.eval x = .pointer (some ⟨b, o, none⟩)) (cs : List Value) (d : TypeDesc) (hc : w.rangeAt b o cs) (hu : P.underlying ty = some d) (hd : d.isRow = true) (hi : (P.info? ty).map (·.size) = some cs.length)
    (h : wpList P ops Q rest (a.put op.dst (.agg cs.toArray)) w) : wpList P ops Q (op :: rest) a w :=
  wpList_step fun K hK => by
    rw [if_pos hw]
    exact wp_load_mid ty x ho b o hx cs d hc hu hd hi (hK _ _ h)
theorem wpList_build34 {ops : Array Oper} {rest : List Oper} {o : Oper} {a : Act} {w : World} {Q : Exit → Act → World → Prop} (hw : Region.wanted o (yielded ops a.tmps) = true) (x x' : Operand) (ho : o.op = .build 83 #[(3, x), (4, x')]) (u u' : Value) (hx : a.eval x = u) (hx' : a.eval x' = u') (cs : Array Value)
    (hb : Tryz.prog.built 83 [(3, u), (4, u')] = some cs) (h : wpList Tryz.prog ops Q rest (a.put o.dst (.agg cs)) w) : wpList Tryz.prog ops Q (o :: rest) a w :=
  wpList_step fun K hK => by
    rw [if_pos hw]
    have h2 := run_build (P := Tryz.prog) w 83 #[(3, u), (4, u')] cs hb
    unfold Oper.wp execOp
    simp only [ho, Sem.run_bind]
    rw [show (#[((3 : Nat), x), (4, x')].map fun p => (p.1, a.eval p.2)) = #[(3, u), (4, u')] by simp [hx, hx'], h2]
    exact hK _ _ h

end Go.Proofs.YtiafhcgaikapcaaGreat


/-
  A memory whose power stays on, beneath a store; frames that are taken, and how many are left. No program.
-/
namespace Go.Proofs.YtiafhcgaikapcaaGreat
set_option linter.unusedVariables false

/-! ### a memory whose power stays on -/
def Calm (A : Mm) : Prop := A.on = true ∧ A.fuse = -1
theorem calm_may {A : Mm} (h : Calm A) : A.may = true := by unfold Mm.may; rw [h.1, h.2]; rfl
theorem calm_step {A : Mm} (h : Calm A) (l : Nat → Ln) : A.step l = A.stepped l := by unfold Mm.step; rw [if_pos (calm_may h)]
theorem calm_new (n : Nat) (s : Nat → Nat → Int) : Calm (Mm.new n s) := ⟨rfl, rfl⟩
theorem calm_store {A : Mm} (h : Calm A) (z q v : Int) : Calm (A.storeZ z q v) := by
  unfold Mm.storeZ
  split
  · unfold Mm.store; rw [calm_step h]
    exact ⟨h.1, by show (if A.fuse > 0 then A.fuse - 1 else A.fuse) = -1; rw [h.2]; rfl⟩
  · exact h
theorem calm_storeE {A : Mm} (h : Calm A) {z q : Int} (hz : A.isZ z) (hq : is8 q) : A.storeE z q = 0 := by
  unfold Mm.storeE Mm.err; rw [if_pos ⟨hz, hq⟩, if_pos (calm_may h)]
theorem calm_loadE {A : Mm} (h : Calm A) {z : Int} (hz : A.isZ z) : A.loadE z = 0 := by unfold Mm.loadE; rw [if_pos hz, if_pos h.1]
theorem isZ_store {A : Mm} (z q v y : Int) : (A.storeZ z q v).isZ y ↔ A.isZ y := by unfold Mm.isZ; rw [storeZ_n]
theorem has_store {A : Mm} (h : Calm A) {z q : Int} (hz : A.isZ z) (hq : is8 q) (v y : Int) (hy : A.isZ y) : (A.storeZ z q v).hasZ y = if y = z then upd (A.hasZ z) q.toNat v else A.hasZ y := by
  have hc := calm_store h z q v
  have e1 : (A.storeZ z q v).hasZ y = (upd A.l z.toNat ((A.l z.toNat).store q.toNat v) y.toNat).has := by
    unfold Mm.hasZ
    rw [if_pos ⟨(isZ_store z q v y).2 hy, hc.1⟩]
    unfold Mm.storeZ
    rw [if_pos ⟨hz, hq⟩]
    unfold Mm.store
    rw [calm_step h]; rfl
  have e2 : A.hasZ y = (A.l y.toNat).has := by unfold Mm.hasZ; rw [if_pos ⟨hy, h.1⟩]
  have e3 : A.hasZ z = (A.l z.toNat).has := by unfold Mm.hasZ; rw [if_pos ⟨hz, h.1⟩]
  rw [e1, e2, e3]
  by_cases e : y = z
  · subst e
    rw [upd_same, if_pos rfl]
    show runS ((A.l y.toNat).t ++ [(q.toNat, v)]) (A.l y.toNat).s = _
    rw [runS_snoc]; rfl
  · rw [if_neg e, upd_other _ _ _ _ (fun q => e (by have := hz.1; have := hy.1; omega))]
theorem calm_lay {A : Mm} (h : Calm A) {z : Int} (hz : A.isZ z) (l : Nat → Int) : ∀ k, k ≤ 8 → Calm (layP A z l k).1 ∧ (layP A z l k).2 = 0 ∧ (∀ y, A.isZ y → y ≠ z → (layP A z l k).1.hasZ y = A.hasZ y) ∧ ∀ j, (layP A z l k).1.hasZ z j = if j < k then l j else A.hasZ z j
  | 0, _ => ⟨h, rfl, fun _ _ _ => rfl, fun j => by rw [if_neg (by omega)]; rfl⟩
  | k + 1, hk => by
    obtain ⟨h1, h2, h3, h4⟩ := calm_lay h hz l k (by omega)
    have hn : ∀ y, A.isZ y → (layP A z l k).1.isZ y := fun y hy => by unfold Mm.isZ; rw [layP_n]; exact hy
    have h8 : is8 (k : Int) := ⟨by omega, by omega⟩
    rw [layP_next h2]
    refine ⟨calm_store h1 _ _ _, calm_storeE h1 (hn z hz) h8, fun y hy hyz => ?_, fun j => ?_⟩
    · rw [has_store h1 (hn z hz) h8 _ _ (hn y hy), if_neg hyz]; exact h3 y hy hyz
    · show ((layP A z l k).1.storeZ z k (l k)).hasZ z j = _
      rw [has_store h1 (hn z hz) h8 _ _ (hn z hz), if_pos rfl, Int.toNat_natCast]
      by_cases e : j = k
      · subst e; rw [upd_same, if_pos (by omega)]
      · rw [upd_other _ _ _ _ e, h4]
        by_cases e2 : j < k
        · rw [if_pos e2, if_pos (by omega)]
        · rw [if_neg e2, if_neg (by omega)]

/-! ### frames that are taken -/
def Fr.tk (F : Fr) (z : Int) : Prop := F.isF z ∧ F.s z.toNat = 1
theorem alloc_spec {F : Fr} (h : F.allocE = 0) : ∃ i : Nat, F.allocV = i ∧ F.lo ≤ i ∧ i < F.hi ∧ F.s i = 0 ∧ F.allocA = F.put i 1 ∧ ∀ j, j < i → F.fr j = false := by
  cases hf : F.first with
  | none => unfold Fr.allocE at h; rw [hf] at h; cases h
  | some i =>
    obtain ⟨h1, h2, h3⟩ := first_spec hf
    have h4 := fr_iff.1 h2
    exact ⟨i, by unfold Fr.allocV; rw [hf], h4.1, h1, h4.2, by unfold Fr.allocA; rw [hf], h3⟩
theorem alloc_none {F : Fr} (h : F.allocE ≠ 0) : F.allocA = F ∧ F.allocE = 10 ∧ ∀ i, i < F.hi → F.fr i = false := by
  cases hf : F.first with
  | none => exact ⟨by unfold Fr.allocA; rw [hf], by unfold Fr.allocE; rw [hf], first_none_iff.1 hf⟩
  | some i => unfold Fr.allocE at h; rw [hf] at h; exact absurd rfl h
theorem alloc_lo (F : Fr) : F.allocA.lo = F.lo ∧ F.allocA.hi = F.hi := by
  unfold Fr.allocA; split <;> exact ⟨rfl, rfl⟩
theorem turn_lo (F : Fr) (z was is : Int) : (F.turnA z was is).lo = F.lo ∧ (F.turnA z was is).hi = F.hi := by
  unfold Fr.turnA; split <;> exact ⟨rfl, rfl⟩
theorem tk_ne {F : Fr} (h : F.allocE = 0) {z : Int} (ht : F.tk z) : z ≠ F.allocV := by
  obtain ⟨i, e1, _, _, e4, _⟩ := alloc_spec h
  intro e
  rw [e1] at e
  have := ht.2
  rw [e, Int.toNat_natCast, e4] at this
  cases this
theorem tk_alloc {F : Fr} {z : Int} (ht : F.tk z) : F.allocA.tk z := by
  by_cases h : F.allocE = 0
  · obtain ⟨i, e1, e2, e3, e4, e5, _⟩ := alloc_spec h
    rw [e5]
    refine ⟨ht.1, ?_⟩
    show upd F.s i 1 z.toNat = 1
    by_cases e : z.toNat = i
    · rw [e, upd_same]
    · rw [upd_other _ _ _ _ e]; exact ht.2
  · rw [(alloc_none h).1]; exact ht
theorem tk_new {F : Fr} (h : F.allocE = 0) : F.allocA.tk F.allocV := by
  obtain ⟨i, e1, e2, e3, e4, e5, _⟩ := alloc_spec h
  rw [e5, e1]
  exact ⟨⟨by show (F.lo : Int) ≤ _; omega, by show _ < (F.hi : Int); omega⟩, by show upd F.s i 1 (i : Int).toNat = 1; rw [Int.toNat_natCast, upd_same]⟩
theorem isF_new {F : Fr} (h : F.allocE = 0) : F.isF F.allocV := by
  obtain ⟨i, e1, e2, e3, e4, e5, _⟩ := alloc_spec h
  rw [e1]; exact ⟨by omega, by omega⟩
theorem count_one {p q : Nat → Bool} {i : Nat} (hp : p i = true) (hq : q i = false) (h : ∀ j, j ≠ i → p j = q j) : ∀ n, (List.range n).countP p = (List.range n).countP q + (if i < n then 1 else 0)
  | 0 => by simp
  | n + 1 => by
    rw [List.range_succ, List.countP_append, List.countP_append, count_one hp hq h n]
    by_cases e : n = i
    · subst e
      rw [if_neg (show ¬ n < n by omega), if_pos (show n < n + 1 by omega)]
      simp [hp, hq]
    · simp only [List.countP_cons, List.countP_nil, h n e]
      by_cases e2 : i < n
      · rw [if_pos e2, if_pos (show i < n + 1 by omega)]; omega
      · rw [if_neg e2, if_neg (show ¬ i < n + 1 by omega)]; omega
theorem left_alloc {F : Fr} (h : F.allocE = 0) : F.left = F.allocA.left + 1 := by
  obtain ⟨i, e1, e2, e3, e4, e5, _⟩ := alloc_spec h
  rw [e5]
  unfold Fr.left Fr.leftTo
  show _ = (List.range F.hi).countP _ + 1
  have := count_one (p := F.fr) (q := (F.put i 1).fr) (i := i) (fr_iff.2 ⟨e2, e4⟩) (fr_false.2 fun q => by
    have := q.2
    have hu : upd F.s i 1 i = 0 := this
    rw [upd_same] at hu; cases hu) (fun j hj => by
    unfold Fr.fr
    show _ = (decide (F.lo ≤ j) && (upd F.s i 1 j == 0))
    rw [upd_other _ _ _ _ hj]) F.hi
  rw [if_pos e3] at this
  exact this
theorem left_none {F : Fr} (h : F.allocE ≠ 0) : F.left = 0 := by
  unfold Fr.left Fr.leftTo
  rw [List.countP_eq_zero]
  intro i hi
  rw [(alloc_none h).2.2 i (List.mem_range.1 hi)]; simp
theorem left_iff {F : Fr} : F.left = 0 ↔ F.allocE ≠ 0 := ⟨fun h e => by have := left_alloc e; omega, left_none⟩

end Go.Proofs.YtiafhcgaikapcaaGreat


/-
  The stores that the statements begin with; what a Set, a Make comes to on a memory whose power stays on.
-/
namespace Go.Proofs.YtiafhcgaikapcaaGreat
open Go.ChangeShapes Go.WideShapes Go.ChangeAt Go.RowKit Go.Joins
set_option maxRecDepth 100000
set_option linter.unusedVariables false
set_option linter.unusedSimpArgs false

/-- A store of n objects on a memory of N lines. -/
def sS (n N : Nat) : Sto := ofS (Fr.new 10 N) (tblF n) dirF
def sA (N : Nat) : Mm := Mm.new N fun _ _ => 0
theorem ofB_64 : ∀ n, n < 31 → ofB (Fr.new 10 64) (tblF n) dirF = true := by decide +kernel
theorem ofB_tbl (n N : Nat) (hn : n < 31) (hN : 64 ≤ N) : ofB (Fr.new 10 N) (tblF n) dirF = true := by
  have h := (takesB_iff _ _).1 (ofB_64 n hn)
  refine (takesB_iff _ _).2 ⟨fun z hz => ?_, h.2⟩
  obtain ⟨⟨h1, h2⟩, h3⟩ := h.1 z hz
  exact ⟨⟨h1, by have : z < ((64 : Nat) : Int) := h2; show z < (N : Int); omega⟩, h3⟩
theorem sS_ok (n N : Nat) (h1 : 10 ≤ N) (h2 : N ≤ 1024) : (sS n N).ok := ofS_ok (new_ok h1 h2) (tblF_v24 n) _
theorem sA_ok (N : Nat) (h1 : 64 ≤ N) (h2 : N ≤ 1024) : (sA N).ok 0 := new0_ok N h1 h2
theorem sS_lo (n N : Nat) : (sS n N).F.lo = 10 ∧ (sS n N).F.hi = N := takeL_lo _ _
theorem sof_tbl {W : World} {m : Nat} (n N : Nat) (hn : n < 31) (h1 : 64 ≤ N) (h2 : N ≤ 1024) (w : World) (G : Nat → Prop) (h : Has W w G m (sA N)) :
    Calls Tryz.prog 63 #[.pointer (some ⟨m, 0, none⟩), .int .i64 10, .agg (tabV (tblF n)), .agg (dirV dirF)] w fun e w' => ∃ b, e = .returned (.tuple #[.pointer (some ⟨b, 0, none⟩), .int .i64 0]) ∧ SHas W m b (fun A w G => Has W w G m A) (sS n N) (sA N) w' G ∧ Same G w w' := by
  have := sof_any (Has.memL W m) h 10 (tblF n) dirF (by show 10 ≤ N; omega) h2
  refine this.mono ?_
  intro e w' hw
  unfold OfPost at hw
  have e0 : ofB (Fr.new 10 (sA N).n) (tblF n) dirF = true := ofB_tbl n N hn h1
  rw [if_pos e0] at hw
  exact hw

/-! ### on a memory whose power stays on -/
theorem lay_calm {S : Sto} {A : Mm} (hc : Calm A) (ha : S.F.allocE = 0) (hz : A.isZ S.F.allocV) (l : Nat → Int) :
    S.layE A l = 0 ∧ Calm (S.layM A l) ∧ (∀ y, A.isZ y → y ≠ S.F.allocV → (S.layM A l).hasZ y = A.hasZ y) ∧ ∀ j, j < 8 → (S.layM A l).hasZ S.F.allocV j = l j := by
  obtain ⟨h1, h2, h3, h4⟩ := calm_lay hc hz l 8 (Nat.le_refl _)
  unfold Sto.layE Sto.layM
  rw [if_pos ha, if_pos ha]
  exact ⟨h2, h1, h3, fun j hj => by rw [h4, if_pos hj]⟩
theorem lay_none {S : Sto} {A : Mm} (ha : S.F.allocE ≠ 0) (l : Nat → Int) : S.layE A l = 10 ∧ S.layM A l = A ∧ S.took = S := by
  have h := alloc_none ha
  unfold Sto.layE Sto.layM Sto.took
  rw [if_neg ha, if_neg ha, h.1]
  exact ⟨h.2.1, rfl, rfl⟩
/-- The line is its own. -/
theorem set_again {S : Sto} {A : Mm} {z q : Int} (hc : Calm A) (hq : is8 q) (hf : S.findE z = 0) (ho : S.own (S.line z) = true) (hz : A.isZ (S.line z)) (v : Int) : S.setE A z q v = 0 ∧ S.setS A z q v = S ∧ S.setM A z q v = A.storeZ (S.line z) q v := by
  refine ⟨?_, ?_, ?_⟩
  · unfold Sto.setE; rw [if_pos hq, if_pos hf, if_pos ho]; exact calm_storeE hc hz hq
  · unfold Sto.setS; rw [if_pos ⟨hq, hf⟩, if_pos ho]
  · unfold Sto.setM; rw [if_pos ⟨hq, hf⟩, if_pos ho]
/-- The line is not, and no frame is free. -/
theorem set_out {S : Sto} {A : Mm} {z q : Int} (hq : is8 q) (hf : S.findE z = 0) (ho : S.own (S.line z) = false) (hl : S.F.allocE ≠ 0) (v : Int) : S.setE A z q v = 10 ∧ S.setS A z q v = S ∧ S.setM A z q v = A := by
  have h0 := left_none hl
  have hn : ¬ S.own (S.line z) = true := by simp [ho]
  refine ⟨?_, ?_, ?_⟩
  · unfold Sto.setE; rw [if_pos hq, if_pos hf, if_neg hn, if_pos h0]
  · unfold Sto.setS; rw [if_pos ⟨hq, hf⟩, if_neg hn, if_neg (fun c => c.1 h0)]
  · unfold Sto.setM; rw [if_pos ⟨hq, hf⟩, if_neg hn, if_neg (fun c => c.1 h0)]
/-- The line is not, and one is. -/
theorem set_first {S : Sto} {A : Mm} {z q : Int} (hc : Calm A) (hq : is8 q) (hf : S.findE z = 0) (ho : S.own (S.line z) = false) (hz : A.isZ (S.line z)) (ha : S.F.allocE = 0) (hy : A.isZ S.F.allocV) (v : Int) :
    S.setE A z q v = 0 ∧ S.setS A z q v = S.took.withW z.toNat (moved (S.w z.toNat) S.F.allocV) ∧ S.setM A z q v = S.layM A (S.copy A z q v) := by
  have hn : ¬ S.own (S.line z) = true := by simp [ho]
  have hl : S.F.left ≠ 0 := fun e => left_iff.1 e ha
  have hle := calm_loadE hc hz
  have he := (lay_calm (S := S) hc ha hy (S.copy A z q v)).1
  refine ⟨?_, ?_, ?_⟩
  · unfold Sto.setE; rw [if_pos hq, if_pos hf, if_neg hn, if_neg hl, if_pos hle]; exact he
  · unfold Sto.setS; rw [if_pos ⟨hq, hf⟩, if_neg hn, if_pos ⟨hl, hle⟩, if_pos he]
  · unfold Sto.setM; rw [if_pos ⟨hq, hf⟩, if_neg hn, if_pos ⟨hl, hle⟩]

end Go.Proofs.YtiafhcgaikapcaaGreat
