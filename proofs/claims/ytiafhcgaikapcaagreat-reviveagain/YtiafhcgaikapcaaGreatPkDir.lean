import Derived.Test.YtiafhcgaikapcaaGreatPkXl
import Derived.Test.YtiafhcgaikapcaaGreatPkNvm
import Derived.Maps.OwnOps
import Derived.Maps.OwnSet
import Derived.Maps.Views
import Derived.Carry
import Derived.Deep.Cut
import Derived.Test.YtiafhcgaikapcaaGreatXShown

/-
  radix's directory: the lines that it has named, in a map; what name, and a memory's Load, return; only the map turns.
-/
namespace Go.Proofs.YtiafhcgaikapcaaGreat
open Go.ChangeShapes Go.WideShapes Go.ChangeAt Go.RowKit Go.Joins
set_option maxRecDepth 10000
set_option linter.unusedVariables false
set_option linter.unusedSimpArgs false

/-! ### the lines that are named -/
def nmB (n : Nat) (fr : Int) (ns : List Int) (z : Int) : Bool := decide (0 ≤ z ∧ fr ≤ z ∧ z < n ∧ z ∉ ns)
/-- The map at M says: these lines, each once. -/
def NamedM (w : World) (M : Nat) (ns : List Int) : Prop :=
  ∃ (n : Nat) (D : DataW Unit), w.ownsMap Tryz.prog 3 (plainElem Tryz.prog 3) M n D ∧ n ≤ ns.length ∧ ∀ z, (Lit.int .i64 z).wf = true → D.atKey (.int .i64 z) (.lit (.int .i64 0)) = .lit (.int .i64 (if z ∈ ns then 1 else 0))
theorem named_new (w : World) : NamedM (w.alloc (.map #[] 0)) w.heap.size [] :=
  ⟨0, .map [], World.ownsMap_made w Tryz.prog 3 _, Nat.le_refl _, fun z _ => by
    rw [if_neg (by simp)]; exact WideAt.atKey_none _ (by simp)⟩
theorem NamedM.keeps {w w' : World} {M : Nat} {ns : List Int} {F : Nat → Prop} (h : NamedM w M ns) (hk : Keeps F w w') (hF : ¬ F M) : NamedM w' M ns := by
  obtain ⟨n, D, h1, h2, h3⟩ := h
  have hlt := h1.lt
  obtain ⟨es, cl, hb, F', hs, hD⟩ := h1
  exact ⟨n, D, ⟨es, cl, (hk.block M hlt hF).trans hb, F', hs, hD⟩, h2, h3⟩
theorem NamedM.lt {w : World} {M : Nat} {ns : List Int} (h : NamedM w M ns) : M < w.heap.size := by
  obtain ⟨n, D, h1, -⟩ := h; exact h1.lt
theorem key_int {z : Int} (hw : (Lit.int .i64 z).wf = true) : keyOf Tryz.prog 3 (.int .i64 z) = some (.int .i64 z) := Maps.keyOf_int_mk Tryz.underlying3 hw
theorem keyed_int : Maps.Keyed Tryz.prog 3 := Maps.int_keyed Tryz.underlying3
theorem zero_int (w : World) : (zeroValue 3).run Tryz.prog w = .ok (.int .i64 0) w := by
  obtain ⟨i0, hi, hz0, hz1, hz2⟩ := info_parts (show (Tryz.prog.info? 3).map (fun i => (i.zero, i.size, i.bytes)) = some (some (.int .i64 0), 1, 8) by kernel_rfl)
  simp [zeroValue, typeInfo, hi, hz0]

theorem cell_grownX {w w2 : World} {M g i : Nat} {v : Value} (hg : w.grownBy w2 (some M)) (hc : w.cell? ⟨g, i, none⟩ = some v) (hne : g ≠ M) : w2.cell? ⟨g, i, none⟩ = some v := by
  rw [World.cell?_of_block (w := w) (hg.block g (World.block_lt_of_cell? w _ hc) (fun e => hne (by simpa using e)))]; exact hc
theorem look_again {w2 : World} {M n : Nat} {D : DataW Unit} {z q : Int} (o2 : w2.ownsMap Tryz.prog 3 (plainElem Tryz.prog 3) M n (D.put (.int .i64 z) (.lit (.int .i64 q)))) (IM : Maps.IsMap D) (hz : (Lit.int .i64 z).wf = true) :
    Sem.run Tryz.prog (Instr.lookup 183 (.map (some M)) (.int .i64 z) false) w2 = .ok (.int .i64 q) w2 := by
  obtain ⟨c, hrun, hat, -⟩ := o2.lookup_int keyed_int Tryz.underlying183 Tryz.underlying3 (zero_int _) (key_int hz)
  rw [Maps.atKey_put_same (k := Lit.int .i64 z) IM trivial] at hat
  have : c = q := by simpa using hat.symm
  rw [← this]; exact hrun
theorem named_next {w2 : World} {M n : Nat} {D : DataW Unit} {z : Int} {ns : List Int} (o2 : w2.ownsMap Tryz.prog 3 (plainElem Tryz.prog 3) M (n + 1) (D.put (.int .i64 z) (.lit (.int .i64 1)))) (IM : Maps.IsMap D) (hz : (Lit.int .i64 z).wf = true) (hn : n ≤ ns.length)
    (h3 : ∀ z, (Lit.int .i64 z).wf = true → D.atKey (.int .i64 z) (.lit (.int .i64 0)) = .lit (.int .i64 (if z ∈ ns then 1 else 0))) : NamedM w2 M (ns ++ [z]) :=
  ⟨n + 1, _, o2, by simpa using hn, fun y hy => by
    by_cases e : y = z
    · subst e; rw [Maps.atKey_put_same (k := Lit.int .i64 y) IM trivial, if_pos (by simp)]
    · rw [Maps.atKey_put_other (by simpa using e), h3 y hy]
      by_cases hm : y ∈ ns
      · rw [if_pos hm, if_pos (by simp [hm])]
      · rw [if_neg hm, if_neg (by simp [hm, e])]⟩

/-! ### name -/
def NmPost (w : World) (M : Nat) (ns : List Int) (z : Int) (ok : Bool) (e : Ending) (w' : World) : Prop := e = .returned (.bool ok) ∧ Keeps (· = M) w w' ∧ (ok = true → NamedM w' M (ns ++ [z]))
set_option maxHeartbeats 4000000 in
theorem name_any {w : World} {F : Nat → Prop} {b c : Nat} {A : Mm} {cs : Nat → Cel} (h : Rep w F b A c cs) (M : Nat) (ns : List Int) (hM : NamedM w M ns) (fr z : Int) (hz : (Lit.int .i64 z).wf = true) (hlen : ns.length < 1000) :
    Calls Tryz.prog 189 #[.agg #[.pointer (some ⟨b, 0, none⟩), .int .i64 fr, .map (some M)], .int .i64 z] w (NmPost w M ns z (nmB A.n fr ns z)) := by
  have HB := hide (fun o : Obj => (Keeps.refl (· = M) w).alloc o)
  have CL := hide (fun o : Obj => lines_any (h.alloc o))
  by_cases h0 : z < 0
  · rw [show nmB A.n fr ns z = false by unfold nmB; rw [decide_eq_false_iff_not]; omega]
    clear h hM
    go_enter Tryz.func189, Tryz.ntmps189
    go_wp2_with fail
    go_ret
    exact ⟨rfl, unhide HB _, by simp⟩
  · by_cases h1 : z < fr
    · rw [show nmB A.n fr ns z = false by unfold nmB; rw [decide_eq_false_iff_not]; omega]
      clear h hM
      go_enter Tryz.func189, Tryz.ntmps189
      go_wp2_with fail
      go_ret
      exact ⟨rfl, unhide HB _, by simp⟩
    · by_cases h2 : (A.n : Int) ≤ z
      · rw [show nmB A.n fr ns z = false by unfold nmB; rw [decide_eq_false_iff_not]; omega]
        clear h hM
        go_enter Tryz.func189, Tryz.ntmps189
        go_wp2_with fail
        refine (unhide CL _).mono ?_
        rintro e w1 ⟨rfl, rfl⟩
        go_wp2_with fail
        go_ret
        exact ⟨rfl, unhide HB _, by simp⟩
      · obtain ⟨n, D, m1, m2, m3⟩ := hM
        have hq : ∃ q : Int, q = (if z ∈ ns then 1 else 0) ∧ (q = 0 ∨ q = 1) := ⟨_, rfl, by split <;> simp⟩
        obtain ⟨q, hq, hq01⟩ := hq
        have hB : nmB A.n fr ns z = (q + 1 == 1) := by
          unfold nmB
          rw [Bool.eq_iff_iff, decide_eq_true_iff, beq_iff_eq]
          by_cases hm : z ∈ ns
          · rw [if_pos hm] at hq; constructor
            · rintro ⟨-, -, -, h⟩; exact absurd hm h
            · intro h; omega
          · rw [if_neg hm] at hq; constructor
            · intro _; omega
            · intro _; exact ⟨by omega, by omega, by omega, hm⟩
        rw [hB]
        have hK := key_int hz
        have m1a := hide (m1.alloc (.cells #[.pointer (some ⟨b, 0, none⟩), .int .i64 fr, .map (some M)] 185))
        obtain ⟨c1, hrun, hat, hwc⟩ := (unhide m1a).lookup_int keyed_int Tryz.underlying183 Tryz.underlying3 (zero_int _) hK
        have hc1 : c1 = q := by
          rw [m3 z hz, ← hq] at hat
          simpa using hat.symm
        subst hc1
        have HM3 := hide m3
        have HM2 := hide m2
        have HQ := hide hq
        have IM := hide (unhide m1a).isMap
        have hw1 : (Lit.int .i64 (c1 + 1)).wf = true := by rcases hq01 with h | h <;> (subst h; decide)
        have hc2 : (c1 : Int) ≤ 1 ∧ 0 ≤ c1 := by omega
        obtain ⟨c2a, c2b⟩ := hc2
        have hval : plainElem (H := Unit) Tryz.prog 3 (.int .i64 (c1 + 1)) = some (.lit (.int .i64 (c1 + 1)), []) := plainElem_int Tryz.underlying3 hw1
        have HVAL := hide hval
        have HK2 := hide hK
        have hn : n < maxLen := by unfold maxLen; omega
        have HN := hide hn
        have HW1 := hide hw1
        have hML := m1.lt
        clear h m1 m2 m3 hq hq01 hB hat hwc hval hK hn hw1
        go_enter Tryz.func189, Tryz.ntmps189
        go_wp2_with fail
        refine (unhide CL _).mono ?_
        rintro e w1 ⟨rfl, rfl⟩
        have cM : (w.alloc (.cells #[.pointer (some ⟨b, 0, none⟩), .int .i64 fr, .map (some M)] 185)).cell? ⟨w.heap.size, 2, none⟩ = some (.map (some M)) := by rw [cell_of_block (heap_new w _)]; rfl
        go_wp2_with (at_mapUpdate; refine wpList_mapUpdate_own _ rfl _ _ _ 183 rfl 3 3 keyed_int Tryz.underlying183 _ M n D rfl (unhide m1a) (unhide HN) (.int .i64 z) (.int .i64 (c1 + 1)) (.int .i64 z) rfl rfl (unhide HK2) (.lit (.int .i64 (c1 + 1))) [] (unhide HVAL) ?_; intro w2 o2 g2; have hr2 := look_again o2 (unhide IM) hz; have cM2 := cell_grownX g2 cM (by omega); have O2 := hide o2; have G2 := hide g2; clear o2 g2)
        go_ret
        refine ⟨rfl, (unhide HB _).grown (unhide G2) (fun k e => Or.inl (by simpa using e.symm)), fun hB => ?_⟩
        have e0 : c1 = 0 := by have := beq_iff_eq.1 hB; omega
        have o2 := unhide O2
        rw [e0, Int.zero_add] at o2
        exact named_next o2 (unhide IM) hz (unhide HM2) (unhide HM3)

/-! ### a memory's Load: nothing that was there turns -/
theorem load_calm {w : World} {F : Nat → Prop} {b c : Nat} {A : Mm} {cs : Nat → Cel} (h : Rep w F b A c cs) (z : Int) (k : Nat) (ez : z = (k : Int)) (hk : k < A.n) (hon : A.on = true) (hn : A.n ≤ 1024) :
    Calls Tryz.prog 47 #[.pointer (some ⟨b, 0, none⟩), .int .i64 z] w fun e w' => e = .returned (.tuple #[.agg (lnV (A.l k).has), .int .i64 0]) ∧ Keeps (fun _ => False) w w' := by
  subst ez
  have D1 : decide ((0 : Int) ≤ (k : Int) ∧ (k : Int) < (A.n : Int)) = true := by simp; omega
  have hk' : (k : Int) < (A.n : Int) := by omega
  have HON := hide hon
  clear hon
  have hz : (#[.int .u64 0, .int .u64 0, .int .u64 0, .int .u64 0, .int .u64 0, .int .u64 0, .int .u64 0, .int .u64 0] : Array Value) = lnV fun _ => 0 := rfl
  have H1 := hide (h.alloc (.cells (lnV fun _ => 0) 83))
  have HK : Hid (Keeps (fun _ => False) w (w.alloc (.cells (lnV fun _ => 0) 83))) := (Keeps.refl _ _).alloc _
  have HB := hide (heap_new w (.cells (lnV fun _ => 0) 83))
  have HZ := hide hz
  clear h hz
  go_enter Tryz.func47, Tryz.ntmps47
  go_wp2_with fail
  rw [unhide HZ]
  obtain ⟨B, hB⟩ : ∃ B, B = w.heap.size := ⟨_, rfl⟩
  rw [← hB] at HB
  rw [← hB]
  have HBB := hide hB
  clear hB
  generalize w.alloc (.cells (lnV fun _ => 0) 83) = W at *
  refine (isLine_any (unhide H1) _).mono ?_
  rintro e w1 ⟨rfl, rfl⟩
  obtain ⟨K0, c0⟩ := (unhide H1).c0
  have c1 := (unhide H1).c1
  rw [unhide HON] at c1
  have HR := hide ((unhide H1).hasR k hk)
  have s8 : (Tryz.prog.info? 83).map (·.size) = some ((List.range 8).map fun j => Value.int .u64 ((A.l k).has j)).length := by rw [List.length_map, List.length_range]; exact lsize
  have s8' : (Tryz.prog.info? 83).map (·.size) = some (lnV (A.l k).has).size := by rw [lnV_size]; exact lsize
  rw [D1]
  go_wp2_with (first | (refine wpList_load_mid rfl 83 _ rfl c (k * 25 + 8) rfl _ _ (unhide HR) Tryz.underlying83 rfl s8 ?_) | (refine wpList_store_row rfl 83 _ _ rfl B (lnV (A.l k).has) rfl rfl _ _ (unhide HB) s8' (by rw [lnV_size, lnV_size]) (lnV_one _) ?_))
  refine bodyPost_ret (v := .tuple #[.agg (lnV (A.l k).has), .int .i64 0]) (results_line Tryz.results47 _ _ B 83 (lnV (A.l k).has) (0, 0) _ _ rfl rfl (setRow_heap _ _ _ _ _ _ (unhide HB)) Tryz.underlying83 rfl s8') rfl ?_
  exact ⟨rfl, Keeps.setRow (unhide HK) (Or.inr (by rw [unhide HBB]; exact Nat.le_refl _)) _⟩

/-- The words of a line, as a row. -/
def lineA (A : Mm) (k : Nat) : List Int := (List.range 8).map (A.l k).has
theorem lineA_len (A : Mm) (k : Nat) : (lineA A k).length = 8 := by simp [lineA]
theorem lineA_iv (A : Mm) (k : Nat) : lnV (A.l k).has = iv .u64 (lineA A k) := tab_iv .u64 8 _
theorem lineA_wf (A : Mm) (k : Nat) (h : (A.l k).ok) : ∀ z ∈ lineA A k, (Lit.int .u64 z).wf = true := fun z hz => by
  unfold lineA at hz
  rw [List.mem_map] at hz
  obtain ⟨j, -, rfl⟩ := hz
  have : InU ((A.l k).has j) := runS_inU _ _ h.1 h.2.1 j
  exact wf_u64 this.1 this.2

end Go.Proofs.YtiafhcgaikapcaaGreat


/-
  What a directory's lines are, in plain mathematics: the names in their order, when all of them may be named, what is loaded.
-/
namespace Go.Proofs.YtiafhcgaikapcaaGreat
set_option linter.unusedVariables false

def okN (n : Nat) (fr : Int) (ns : List Int) : Bool := decide ((∀ z ∈ ns, 0 ≤ z ∧ fr ≤ z ∧ z < n) ∧ ns.Nodup)
theorem okN_iff (n : Nat) (fr : Int) (ns : List Int) : okN n fr ns = true ↔ (∀ z ∈ ns, 0 ≤ z ∧ fr ≤ z ∧ z < n) ∧ ns.Nodup := by unfold okN; rw [decide_eq_true_iff]
theorem okN_snoc (n : Nat) (fr : Int) (ns : List Int) (z : Int) : okN n fr (ns ++ [z]) = true ↔ okN n fr ns = true ∧ nmB n fr ns z = true := by
  rw [okN_iff, okN_iff]
  unfold nmB
  rw [decide_eq_true_iff, List.nodup_append]
  constructor
  · rintro ⟨h1, h2, -, h3⟩
    have hz := h1 z (by simp)
    exact ⟨⟨fun y hy => h1 y (by simp [hy]), h2⟩, hz.1, hz.2.1, hz.2.2, fun hm => h3 z hm z (by simp) rfl⟩
  · rintro ⟨⟨h1, h2⟩, h3, h4, h5, h6⟩
    refine ⟨fun y hy => ?_, h2, by simp, fun a ha b hb e => ?_⟩
    · rcases List.mem_append.1 hy with hy | hy
      · exact h1 y hy
      · simp at hy; subst hy; exact ⟨h3, h4, h5⟩
    · simp at hb; subst hb; subst e; exact h6 ha
theorem okN_prefix {n : Nat} {fr : Int} {ns ms : List Int} (h : okN n fr (ns ++ ms) = true) : okN n fr ns = true := by
  rw [okN_iff] at h ⊢
  exact ⟨fun z hz => h.1 z (by simp [hz]), (List.nodup_append.1 h.2).1⟩
theorem okN_mem {n : Nat} {fr : Int} {ns : List Int} (h : okN n fr ns = true) {z : Int} (hz : z ∈ ns) : 0 ≤ z ∧ fr ≤ z ∧ z < n := ((okN_iff _ _ _).1 h).1 z hz
theorem bool_not {b : Bool} (h : b = true → False) : b = false := by
  cases b with
  | false => rfl
  | true => exact (h rfl).elim

/-- The objects' lines of the first j entries. -/
def objTo (x : List Int) : Nat → List Int
  | 0 => []
  | j + 1 => objTo x j ++ (if (enAt x j).k = 0 then [] else [(enAt x j).l])
theorem objTo_len (x : List Int) : ∀ j, (objTo x j).length ≤ j
  | 0 => by simp [objTo]
  | j + 1 => by
    have := objTo_len x j
    rw [objTo, List.length_append]
    split <;> simp <;> omega
theorem objTo_prefix (x : List Int) (j m : Nat) : ∃ r, objTo x (j + m) = objTo x j ++ r := by
  induction m with
  | zero => exact ⟨[], by simp⟩
  | succ m ih =>
    obtain ⟨r, hr⟩ := ih
    refine ⟨r ++ (if (enAt x (j + m)).k = 0 then [] else [(enAt x (j + m)).l]), ?_⟩
    rw [← Nat.add_assoc, objTo, hr, List.append_assoc]
theorem objTo_seven (x : List Int) (j : Nat) (h : j ≤ 7) : ∃ r, objTo x 7 = objTo x j ++ r := by
  have := objTo_prefix x j (7 - j)
  rwa [show j + (7 - j) = 7 by omega] at this
theorem objTo_may (x : List Int) (hm : ∀ i, i < 7 → mayN (enAt x i) = true) : ∀ j, j ≤ 7 → ∀ z ∈ objTo x j, 0 ≤ z
  | 0, _, z, hz => by simp [objTo] at hz
  | j + 1, hj, z, hz => by
    rw [objTo, List.mem_append] at hz
    rcases hz with hz | hz
    · exact objTo_may x hm j (by omega) z hz
    · split at hz
      · simp at hz
      · simp at hz; subst hz; exact ((mayN_iff _).1 (hm j (by omega))).2.2.2.2.1

/-- A leaf: its line may be named, is a leaf's, and so may its objects' lines. -/
def lfB (n : Nat) (fr : Int) (A : Mm) (ns : List Int) (z : Int) : Bool := nmB n fr ns z && (isX (lineA A z.toNat) && okN n fr (ns ++ [z] ++ objTo (readX (lineA A z.toNat)) 7))
def lfV (n : Nat) (fr : Int) (A : Mm) (ns : List Int) (z : Int) : List Int := if lfB n fr A ns z then readX (lineA A z.toNat) else zrow 7
theorem lfV_len (n : Nat) (fr : Int) (A : Mm) (ns : List Int) (z : Int) : (lfV n fr A ns z).length = 21 := by unfold lfV; split; exact readX_len _; exact zrow_len 7
theorem readX_l (l : List Int) (hi : isX l = true) (j : Nat) (h : j < 7) : mayN (enAt (readX l) j) = true := by
  have ha : allN l = true := by unfold isX at hi; rw [Bool.and_eq_true] at hi; exact hi.1
  exact (mayX_iff _).1 (readX_may l ha) j h

/-- The leaves' lines of a root. -/
def lsA (A : Mm) (root : Int) : List Int := readT (lineA A root.toNat)
/-- What is named up to the leaf k. -/
def nsTo (A : Mm) (root : Int) : Nat → List Int
  | 0 => [root]
  | k + 1 => nsTo A root k ++ [(lsA A root).getD k 0] ++ objTo (readX (lineA A ((lsA A root).getD k 0).toNat)) 7
theorem nsTo_len (A : Mm) (root : Int) : ∀ k, (nsTo A root k).length ≤ 1 + 8 * k
  | 0 => by simp [nsTo]
  | k + 1 => by
    have h1 := nsTo_len A root k
    have h2 := objTo_len (readX (lineA A ((lsA A root).getD k 0).toNat)) 7
    rw [nsTo, List.length_append, List.length_append, List.length_singleton]
    omega
theorem nsTo_prefix (A : Mm) (root : Int) (k m : Nat) : ∃ r, nsTo A root (k + m) = nsTo A root k ++ r := by
  induction m with
  | zero => exact ⟨[], by simp⟩
  | succ m ih =>
    obtain ⟨r, hr⟩ := ih
    refine ⟨r ++ ([(lsA A root).getD (k + m) 0] ++ objTo (readX (lineA A ((lsA A root).getD (k + m) 0).toNat)) 7), ?_⟩
    rw [← Nat.add_assoc, nsTo, hr]
    simp [List.append_assoc]
theorem nsTo_seven (A : Mm) (root : Int) (k : Nat) (h : k ≤ 7) : ∃ r, nsTo A root 7 = nsTo A root k ++ r := by
  have := nsTo_prefix A root k (7 - k)
  rwa [show k + (7 - k) = 7 by omega] at this
def leafA (A : Mm) (root : Int) (k : Nat) : List Int := lineA A ((lsA A root).getD k 0).toNat
/-- What may be loaded. -/
def loadB (A : Mm) (fr root : Int) : Bool := (okN A.n fr [root] && isT (lineA A root.toNat)) && (((List.range 7).all fun k => isX (leafA A root k)) && okN A.n fr (nsTo A root 7))
theorem loadB_iff (A : Mm) (fr root : Int) : loadB A fr root = true ↔ (okN A.n fr [root] = true ∧ isT (lineA A root.toNat) = true) ∧ (∀ k, k < 7 → isX (leafA A root k) = true) ∧ okN A.n fr (nsTo A root 7) = true := by
  unfold loadB
  rw [Bool.and_eq_true, Bool.and_eq_true, Bool.and_eq_true, List.all_eq_true]
  simp
/-- The table that is loaded: its first j entries. -/
def tabF (A : Mm) (root : Int) : Nat → En := fun i => enAt (readX (leafA A root (i / 7))) (i % 7)
def tabA (A : Mm) (root : Int) : List Int := rowE 49 (tabF A root)
theorem tabA_len (A : Mm) (root : Int) : (tabA A root).length = 147 := rowE_len 49 _
def ldT (A : Mm) (fr root : Int) : List Int := if A.on = true ∧ loadB A fr root = true then tabA A root else zrow 49
def ldL (A : Mm) (fr root : Int) : List Int := if A.on = true ∧ loadB A fr root = true then lsA A root else zs7
def ldE (A : Mm) (fr root : Int) : Int := if A.on = true then (if loadB A fr root = true then 0 else 21) else 4
theorem ldT_len (A : Mm) (fr root : Int) : (ldT A fr root).length = 147 := by unfold ldT; split; exact tabA_len _ _; exact zrow_len 49
theorem ldL_len (A : Mm) (fr root : Int) : (ldL A fr root).length = 7 := by unfold ldL; split; exact tab7_len _; rfl
theorem lsA_len (A : Mm) (root : Int) : (lsA A root).length = 7 := tab7_len _
theorem lsA_bd (A : Mm) (root : Int) (h : isT (lineA A root.toNat) = true) (k : Nat) (hk : k < 7) : 0 ≤ (lsA A root).getD k 0 ∧ (lsA A root).getD k 0 < 1024 := by
  have := ((isT_iff _).1 h).1 k hk
  unfold lsA readT
  rw [tab7_get _ k hk]
  omega

end Go.Proofs.YtiafhcgaikapcaaGreat


/-
  radix's directory: what line and leaf return; only the map of the names turns.
-/
namespace Go.Proofs.YtiafhcgaikapcaaGreat
open Go.ChangeShapes Go.WideShapes Go.ChangeAt Go.RowKit Go.Joins
set_option maxRecDepth 10000
set_option linter.unusedVariables false
set_option linter.unusedSimpArgs false

def LnPost (w : World) (M : Nat) (ns : List Int) (z : Int) (v : List Int) (ok : Bool) (e : Ending) (w' : World) : Prop := e = .returned (.tuple #[.agg (iv .u64 v), .bool ok]) ∧ Keeps (· = M) w w' ∧ (ok = true → NamedM w' M (ns ++ [z]))
def lnV' (n : Nat) (fr : Int) (A : Mm) (ns : List Int) (z : Int) : List Int := if nmB n fr ns z then lineA A z.toNat else zs8
theorem lnV'_len (n : Nat) (fr : Int) (A : Mm) (ns : List Int) (z : Int) : (lnV' n fr A ns z).length = 8 := by unfold lnV'; split; exact lineA_len _ _; rfl
set_option maxHeartbeats 4000000 in
theorem dline_any {w : World} {F : Nat → Prop} {b c : Nat} {A : Mm} {cs : Nat → Cel} (h : Rep w F b A c cs) (hon : A.on = true) (hn : A.n ≤ 1024) (M : Nat) (hFM : ¬ F M) (ns : List Int) (hM : NamedM w M ns) (fr z : Int) (hz : (Lit.int .i64 z).wf = true) (hlen : ns.length < 1000) :
    Calls Tryz.prog 159 #[.agg #[.pointer (some ⟨b, 0, none⟩), .int .i64 fr, .map (some M)], .int .i64 z] w (LnPost w M ns z (lnV' A.n fr A ns z) (nmB A.n fr ns z)) := by
  have hML := hM.lt
  obtain ⟨W1, hW1⟩ : ∃ W1, W1 = (w.alloc (.cells #[.pointer (some ⟨b, 0, none⟩), .int .i64 fr, .map (some M)] 185)).alloc (.cells (iv .u64 zs8) 83) := ⟨_, rfl⟩
  have HK1 : Hid (Keeps (fun _ => False) w W1) := by rw [hW1]; exact ((Keeps.refl _ w).alloc _).alloc _
  have R1 := hide (h.keeps (unhide HK1) (fun _ _ => id))
  have C1 := hide (name_any (unhide R1) M ns (hM.keeps (unhide HK1) id) fr z hz hlen)
  have G1 : Hid (W1.heap[w.heap.size]? = some (.cells #[.pointer (some ⟨b, 0, none⟩), .int .i64 fr, .map (some M)] 185 (0, 0))) := by rw [hW1]; exact (heap2 w _ _).1
  have G2 : Hid (W1.heap[w.heap.size + 1]? = some (.cells (iv .u64 zs8) 83 (0, 0))) := by rw [hW1]; exact (heap2 w _ _).2
  have HW1 := hide hW1
  have s8z := s8_of zs8 rfl
  have HFM := hide hFM
  clear h hM hW1 hFM
  go_enter Tryz.func159, Tryz.ntmps159
  go_upto_region 1 with fail
  rw [zero8x, ← unhide HW1]
  have d0 : W1.cell? ⟨w.heap.size, 0, none⟩ = some (.pointer (some ⟨b, 0, none⟩)) := by rw [cell_of_block (unhide G1)]; rfl
  have d1 : W1.cell? ⟨w.heap.size, 1, none⟩ = some (.int .i64 fr) := by rw [cell_of_block (unhide G1)]; rfl
  have d2 : W1.cell? ⟨w.heap.size, 2, none⟩ = some (.map (some M)) := by rw [cell_of_block (unhide G1)]; rfl
  clear HW1
  go_wp2_with fail
  refine (unhide C1).mono ?_
  rintro e w2 ⟨rfl, hk2, hn2⟩
  have hs1 := lt_of_heap (unhide G2)
  have K1 := hide ((hk2.block _ (by omega) (by omega)).trans (unhide G1))
  have K2 := hide ((hk2.block _ (by omega) (by omega)).trans (unhide G2))
  have R2 := hide ((unhide R1).keeps hk2 (fun x hx e => unhide HFM (e ▸ hx)))
  have HK2 : Hid (Keeps (· = M) w w2) := ((unhide HK1).mono fun k hk hf => hf.elim).trans' hk2
  have HN2 := hide hn2
  have hs2 := hk2.size
  clear hk2 hn2 C1 G1 G2 R1 HK1 d0 d1 d2
  cases hb : nmB A.n fr ns z with
  | false =>
    have HBB := hide hb
    have HV : Hid (lnV' A.n fr A ns z = zs8) := by show _ = _; unfold lnV'; rw [hb]; rfl
    go_wp2_with (first | (refine wpList_build0 rfl 83 rfl _ build8x ?_) | (with_reducible refine wpList_store_row (by with_unfolding_all rfl) 83 _ _ (by with_unfolding_all rfl) (w.heap.size + 1) (iv .u64 zs8) (by with_unfolding_all rfl) (by with_unfolding_all rfl) _ _ (unhide K2) s8z rfl (iv_one _ _) ?_))
    refine bodyPost_ret (v := .tuple #[.agg (iv .u64 zs8), .bool false]) (results_two Tryz.results159 _ _ (w.heap.size + 1) 83 (iv .u64 zs8) (0, 0) _ _ rfl rfl (setRow_heap _ _ _ _ _ _ (unhide K2)) Tryz.underlying83 rfl s8z) rfl ?_
    exact ⟨by rw [unhide HV, unhide HBB], Keeps.setRow (unhide HK2) (Or.inr (by omega)) _, fun h => by rw [unhide HBB] at h; cases h⟩
  | true =>
    have hb2 := hb
    have HBB := hide hb
    unfold nmB at hb2
    rw [decide_eq_true_iff] at hb2
    obtain ⟨z0, z1, z2, -⟩ := hb2
    have HV : Hid (lnV' A.n fr A ns z = lineA A z.toNat) := by show _ = _; unfold lnV'; rw [hb]; rfl
    have HNM := hide (unhide HN2 hb)
    have C2 := hide (load_calm (unhide R2) z z.toNat (by omega) (by omega) hon hn)
    rw [lineA_iv] at C2
    have d0 : w2.cell? ⟨w.heap.size, 0, none⟩ = some (.pointer (some ⟨b, 0, none⟩)) := by rw [cell_of_block (unhide K1)]; rfl
    have s8 := s8_of (lineA A z.toNat) (lineA_len _ _)
    have e8 : (iv .u64 zs8).size = (iv .u64 (lineA A z.toNat)).size := by rw [iv_size, iv_size, lineA_len]; rfl
    have n8 := iv_newx .u64 (lineA A z.toNat) 83 8 (lineA_len _ _)
    have z8 : (iv .u64 (lineA A z.toNat)).size = 8 := by rw [iv_size, lineA_len]
    generalize lineA A z.toNat = L at *
    clear hb HN2
    go_wp2_with fail
    refine (unhide C2).mono ?_
    rintro e w3 ⟨rfl, hk3⟩
    have hs3 := hk3.size
    have K3 := hide ((Below.heap_alloc w3 (.cells (iv .u64 L) 83) (w.heap.size + 1) (by omega)).trans ((hk3.block _ (by omega) id).trans (unhide K2)))
    have K4 := hide (heap_new w3 (.cells (iv .u64 L) 83))
    have HK4 : Hid (Keeps (· = M) w (w3.alloc (.cells (iv .u64 L) 83))) := ((unhide HK2).trans' (hk3.mono fun k hk hf => hf.elim)).alloc _
    have HM4 : Hid (NamedM (w3.alloc (.cells (iv .u64 L) 83)) M (ns ++ [z])) := ((unhide HNM).keeps hk3 id).keeps (F := fun _ => False) ((Keeps.refl _ _).alloc _) id
    clear hk3 C2 R2 K1 K2 d0 HK2 HNM
    go_wp2_with (first | (with_reducible refine wpList_load_row (by with_unfolding_all rfl) 83 _ (by with_unfolding_all rfl) w3.heap.size (by with_unfolding_all rfl) _ _ _ _ (unhide K4) Tryz.underlying83 (by with_unfolding_all rfl) s8 ?_) | (with_reducible refine wpList_store_row (by with_unfolding_all rfl) 83 _ _ (by with_unfolding_all rfl) (w.heap.size + 1) (iv .u64 L) (by with_unfolding_all rfl) (by with_unfolding_all rfl) _ _ (unhide K3) s8 e8 (iv_one _ _) ?_))
    refine bodyPost_ret (v := .tuple #[.agg (iv .u64 L), .bool true]) (results_two Tryz.results159 _ _ (w.heap.size + 1) 83 (iv .u64 L) (0, 0) _ _ rfl rfl (setRow_heap _ _ _ _ _ _ (unhide K3)) Tryz.underlying83 rfl s8) rfl ?_
    exact ⟨by rw [unhide HV, unhide HBB], Keeps.setRow (unhide HK4) (Or.inr (by omega)) _, fun _ => (unhide HM4).keeps (F := (· = w.heap.size + 1)) (Keeps.setRow (F := (· = w.heap.size + 1)) (Keeps.refl _ _) (Or.inl rfl) _) (by omega)⟩

end Go.Proofs.YtiafhcgaikapcaaGreat


/-
  radix's directory: what leaf returns; only the map of the names turns.
-/
namespace Go.Proofs.YtiafhcgaikapcaaGreat
open Go.ChangeShapes Go.WideShapes Go.ChangeAt Go.RowKit Go.Joins
set_option maxRecDepth 10000
set_option linter.unusedVariables false
set_option linter.unusedSimpArgs false

def LfPost (w : World) (M : Nat) (ms : List Int) (v : List Int) (ok : Bool) (e : Ending) (w' : World) : Prop := e = .returned (.tuple #[.agg (iv .i64 v), .bool ok]) ∧ Keeps (· = M) w w' ∧ (ok = true → NamedM w' M ms)
def lfN (A : Mm) (ns : List Int) (z : Int) : List Int := ns ++ [z] ++ objTo (readX (lineA A z.toNat)) 7
theorem wf_l {c : En} (hm : mayN c = true) : (Lit.int .i64 c.l).wf = true := by
  have := (mayN_iff c).1 hm
  simp [Lit.wf, IntKind.min, IntKind.max, IntKind.signed, IntKind.bits]; omega
set_option maxHeartbeats 8000000 in
theorem dleaf_any {w : World} {F : Nat → Prop} {b c : Nat} {A : Mm} {cs : Nat → Cel} (h : Rep w F b A c cs) (hon : A.on = true) (hn : A.n ≤ 1024) (hlk : ∀ i, (A.l i).ok) (M : Nat) (hFM : ¬ F M) (ns : List Int) (hM : NamedM w M ns) (fr z : Int) (hN : okN A.n fr ns = true) (hz : (Lit.int .i64 z).wf = true) (hlen : ns.length < 900) :
    Calls Tryz.prog 161 #[.agg #[.pointer (some ⟨b, 0, none⟩), .int .i64 fr, .map (some M)], .int .i64 z] w (LfPost w M (lfN A ns z) (lfV A.n fr A ns z) (lfB A.n fr A ns z)) := by
  have hML := hM.lt
  obtain ⟨W1, hW1⟩ : ∃ W1, W1 = (w.alloc (.cells #[.pointer (some ⟨b, 0, none⟩), .int .i64 fr, .map (some M)] 185)).alloc (.cells (iv .i64 (zrow 7)) 232) := ⟨_, rfl⟩
  have HK1 : Hid (Keeps (fun _ => False) w W1) := by rw [hW1]; exact ((Keeps.refl _ w).alloc _).alloc _
  have R1 := hide (h.keeps (unhide HK1) (fun _ _ => id))
  have C1 := hide (dline_any (unhide R1) hon hn M hFM ns (hM.keeps (unhide HK1) id) fr z hz (by omega))
  have G1 : Hid (W1.heap[w.heap.size]? = some (.cells #[.pointer (some ⟨b, 0, none⟩), .int .i64 fr, .map (some M)] 185 (0, 0))) := by rw [hW1]; exact (heap2 w _ _).1
  have G2 : Hid (W1.heap[w.heap.size + 1]? = some (.cells (iv .i64 (zrow 7)) 232 (0, 0))) := by rw [hW1]; exact (heap2 w _ _).2
  have HW1 := hide hW1
  have s21z := s21_of (zrow 7) (zrow_len 7)
  have HFM := hide hFM
  have HFL := hide h.lt
  have n8 := iv_newx .u64 (lnV' A.n fr A ns z) 83 8 (lnV'_len _ _ _ _ _)
  have z8 : (iv .u64 (lnV' A.n fr A ns z)).size = 8 := by rw [iv_size, lnV'_len]
  have HB1 : Hid (nmB A.n fr ns z = false → lfV A.n fr A ns z = zrow 7 ∧ lfB A.n fr A ns z = false) := fun e => by
    have : lfB A.n fr A ns z = false := by unfold lfB; rw [e]; rfl
    exact ⟨by unfold lfV; rw [this]; rfl, this⟩
  have HB2 : Hid (isX (lineA A z.toNat) = false → lfV A.n fr A ns z = zrow 7 ∧ lfB A.n fr A ns z = false) := fun e => by
    have : lfB A.n fr A ns z = false := by unfold lfB; rw [e]; simp
    exact ⟨by unfold lfV; rw [this]; rfl, this⟩
  have HB3 : Hid (okN A.n fr (lfN A ns z) = false → lfV A.n fr A ns z = zrow 7 ∧ lfB A.n fr A ns z = false) := fun e => by
    have : lfB A.n fr A ns z = false := by unfold lfB; unfold lfN at e; rw [e]; simp
    exact ⟨by unfold lfV; rw [this]; rfl, this⟩
  have HB4 : Hid (nmB A.n fr ns z = true → isX (lineA A z.toNat) = true → okN A.n fr (lfN A ns z) = true → lfV A.n fr A ns z = readX (lineA A z.toNat) ∧ lfB A.n fr A ns z = true) := fun e1 e2 e3 => by
    have : lfB A.n fr A ns z = true := by unfold lfB; unfold lfN at e3; rw [e1, e2, e3]; rfl
    exact ⟨by unfold lfV; rw [this]; rfl, this⟩
  have HLV : Hid (nmB A.n fr ns z = true → lnV' A.n fr A ns z = lineA A z.toNat) := fun e => by unfold lnV'; rw [e]; rfl
  have HNS := hide hN
  clear h hM hW1 hFM hN
  go_enter Tryz.func161, Tryz.ntmps161
  go_upto_region 1 with fail
  rw [zero21, ← unhide HW1]
  have d0 : W1.cell? ⟨w.heap.size, 0, none⟩ = some (.pointer (some ⟨b, 0, none⟩)) := by rw [cell_of_block (unhide G1)]; rfl
  have d1 : W1.cell? ⟨w.heap.size, 1, none⟩ = some (.int .i64 fr) := by rw [cell_of_block (unhide G1)]; rfl
  have d2 : W1.cell? ⟨w.heap.size, 2, none⟩ = some (.map (some M)) := by rw [cell_of_block (unhide G1)]; rfl
  clear HW1
  go_wp2_with fail
  refine (unhide C1).mono ?_
  rintro e w2 ⟨rfl, hk2, hn2⟩
  have hs1 := lt_of_heap (unhide G2)
  have hs2 := hk2.size
  have K1 := hide ((Below.heap_alloc w2 (.cells (iv .u64 (lnV' A.n fr A ns z)) 83) w.heap.size (by omega)).trans ((hk2.block _ (by omega) (by omega)).trans (unhide G1)))
  have KR := hide ((Below.heap_alloc w2 (.cells (iv .u64 (lnV' A.n fr A ns z)) 83) (w.heap.size + 1) (by omega)).trans ((hk2.block _ (by omega) (by omega)).trans (unhide G2)))
  have K6 := hide (heap_new w2 (.cells (iv .u64 (lnV' A.n fr A ns z)) 83))
  have R2 := hide (((unhide R1).keeps hk2 (fun x hx e => unhide HFM (e ▸ hx))).alloc (.cells (iv .u64 (lnV' A.n fr A ns z)) 83))
  have HKR : Hid (Keeps (· = M) w (w2.alloc (.cells (iv .u64 (lnV' A.n fr A ns z)) 83))) := (((unhide HK1).mono fun k hk hf => hf.elim).trans' hk2).alloc _
  have HN2 := hide hn2
  clear hk2 hn2 C1 G1 G2 R1 HK1 d0 d1 d2
  have HM2 : Hid (nmB A.n fr ns z = true → NamedM (w2.alloc (.cells (iv .u64 (lnV' A.n fr A ns z)) 83)) M (ns ++ [z])) := fun hb => (unhide HN2 hb).keeps (F := fun _ => False) ((Keeps.refl _ _).alloc _) id
  go_upto_region 2 with fail
  clear n8 z8 HN2
  generalize w2.alloc (.cells (iv .u64 (lnV' A.n fr A ns z)) 83) = W2 at *
  cases hb : nmB A.n fr ns z with
  | false =>
    have HV := hide (unhide HB1 hb)
    clear HB1 HB2 HB3 HB4 HLV hb
    go_wp2_with (first | (refine wpList_build0 rfl 232 rfl _ build21 ?_) | (refine wpList_store_row rfl 232 _ _ rfl (w.heap.size + 1) (iv .i64 (zrow 7)) rfl rfl _ _ (unhide KR) s21z rfl (iv_one _ _) ?_))
    refine bodyPost_ret (v := .tuple #[.agg (iv .i64 (zrow 7)), .bool false]) (results_two Tryz.results161 _ _ (w.heap.size + 1) 232 (iv .i64 (zrow 7)) (0, 0) _ _ rfl rfl (setRow_heap _ _ _ _ _ _ (unhide KR)) Tryz.underlying232 rfl s21z) rfl ?_
    exact ⟨by rw [(unhide HV).1, (unhide HV).2], Keeps.setRow (unhide HKR) (Or.inr (by omega)) _, fun h => by rw [(unhide HV).2] at h; cases h⟩
  | true =>
    have HM2' := hide (unhide HM2 hb)
    have HOK : Hid (okN A.n fr (ns ++ [z]) = true) := (okN_snoc _ _ _ _).2 ⟨unhide HNS, hb⟩
    have hL := unhide HLV hb
    rw [hL] at K6
    rw [hL]
    have CR := hide (readLeaf_any (lineA A z.toNat) (lineA_len _ _) (lineA_wf A _ (hlk _)))
    have s8 := s8_of (lineA A z.toNat) (lineA_len _ _)
    have e21 : (iv .i64 (zrow 7)).size = (iv .i64 (readXV (lineA A z.toNat))).size := by rw [iv_size, iv_size, zrow_len, readXV_len]
    have s21 := s21_of (readXV (lineA A z.toNat)) (readXV_len _)
    have HXV : Hid (isX (lineA A z.toNat) = true → readXV (lineA A z.toNat) = readX (lineA A z.toNat)) := fun e => by unfold readXV; rw [if_pos e]
    have HXM : Hid (isX (lineA A z.toNat) = true → ∀ j, j < 7 → mayN (enAt (readX (lineA A z.toNat)) j) = true) := fun e j hj => readX_l _ e j hj
    have LX := hide (readX_len (lineA A z.toNat))
    have HLN : Hid (lfN A ns z = ns ++ [z] ++ objTo (readX (lineA A z.toNat)) 7) := rfl
    have HB4' := hide (unhide HB4 hb)
    clear hL HB1 HB4 HLV hb hz HNS HM2
    generalize lineA A z.toNat = L at *
    go_wp2_with (with_reducible refine wpList_load_row (by with_unfolding_all rfl) 83 _ (by with_unfolding_all rfl) w2.heap.size (by with_unfolding_all rfl) _ _ _ _ (unhide K6) Tryz.underlying83 (by with_unfolding_all rfl) s8 ?_)
    refine (unhide CR _).mono ?_
    rintro e w3 ⟨rfl, hb3⟩
    have hs3 := hb3.size
    have hr3 := lt_of_heap (unhide KR)
    have K1' := hide ((hb3.block _ (by omega)).trans (unhide K1))
    have KR' := hide ((hb3.block _ (by omega)).trans (unhide KR))
    have hk3 : Keeps (fun _ => False) W2 w3 := Keeps.of_below hb3
    have R3 := hide ((unhide R2).keeps hk3 (fun _ _ => id))
    have HKR' : Hid (Keeps (· = M) w w3) := (unhide HKR).trans' (hk3.mono fun k hk hf => hf.elim)
    have HM3 := hide ((unhide HM2').keeps hk3 id)
    clear hb3 hk3 CR K1 KR K6 R2 HKR HM2'
    have K5 := hide ((setRow_other w3 (w.heap.size + 1) w.heap.size (iv .i64 (readXV L)) (by omega)).trans (unhide K1'))
    have KR := hide (setRow_heap w3 (w.heap.size + 1) _ (iv .i64 (readXV L)) _ _ (unhide KR'))
    have hk4 : Keeps (· = w.heap.size + 1) w3 (w3.setRow (w.heap.size + 1) (iv .i64 (readXV L))) := Keeps.setRow (F := (· = w.heap.size + 1)) (Keeps.refl _ _) (Or.inl rfl) _
    have HKR : Hid (Keeps (· = M) w (w3.setRow (w.heap.size + 1) (iv .i64 (readXV L)))) := Keeps.setRow (unhide HKR') (Or.inr (by omega)) _
    have HM4 := hide ((unhide HM3).keeps hk4 (by omega))
    have ZR : Hid ((iv .i64 (readXV L)).size = (iv .i64 (zrow 7)).size) := e21.symm
    have hFw : Hid (∀ x, F x → ¬ (x = w.heap.size + 1)) := fun x hx e => by
      have := unhide HFL x hx; omega
    have R4 := hide ((unhide R3).keeps hk4 (unhide hFw))
    clear hk4 HKR' HM3 R3 K1'
    go_upto_region 5 with (with_reducible refine wpList_store_row (by with_unfolding_all rfl) 232 _ _ (by with_unfolding_all rfl) (w.heap.size + 1) (iv .i64 (readXV L)) (by with_unfolding_all rfl) (by with_unfolding_all rfl) _ _ (unhide KR') s21 e21 (iv_one _ _) ?_)
    clear KR'
    generalize w3.setRow (w.heap.size + 1) (iv .i64 (readXV L)) = w4 at *
    cases hi : isX L with
    | false =>
      have HV := hide (unhide HB2 hi)
      clear HB2 HB3 HB4' hi
      go_wp2_with (first | (refine wpList_build0 rfl 232 rfl _ build21 ?_) | (refine wpList_store_row rfl 232 _ _ rfl (w.heap.size + 1) (iv .i64 (zrow 7)) rfl rfl _ _ (unhide KR) s21z (unhide ZR) (iv_one _ _) ?_))
      refine bodyPost_ret (v := .tuple #[.agg (iv .i64 (zrow 7)), .bool false]) (results_two Tryz.results161 _ _ (w.heap.size + 1) 232 (iv .i64 (zrow 7)) (0, 0) _ _ rfl rfl (setRow_heap _ _ _ _ _ _ (unhide KR)) Tryz.underlying232 rfl s21z) rfl ?_
      exact ⟨by rw [(unhide HV).1, (unhide HV).2], Keeps.setRow (unhide HKR) (Or.inr (by omega)) _, fun h => by rw [(unhide HV).2] at h; cases h⟩
    | true =>
      have hXV := unhide HXV hi
      rw [hXV] at KR ZR s21
      have HXM' := hide (unhide HXM hi)
      have HB5 := hide (unhide HB4' hi)
      have ZX := ZR
      clear HXV HXM HB2 HB4' hi hXV ZR
      have HIX : Hid (∀ (W : World) (j : Nat), j < 7 → Sem.run Tryz.prog (Instr.index 232 (.agg (iv .i64 (readX L))) (.int .i64 (j : Int))) W = .ok (.agg (ev (enAt (readX L) j))) W) := fun W j hj => run_index_en _ 7 Tryz.underlying232 W _ (unhide LX) .i64 j hj
      go_wp2_with (with_reducible refine wpList_load_row (by with_unfolding_all rfl) 232 _ (by with_unfolding_all rfl) (w.heap.size + 1) (by with_unfolding_all rfl) _ _ _ _ (unhide KR) Tryz.underlying232 (by with_unfolding_all rfl) s21 ?_)
      go_loopw [27] (fun c0 wr => ∃ j : Nat, j ≤ 7 ∧ c0 = .int .i64 j ∧ Keeps (· = M) w wr ∧ wr.heap[w.heap.size]? = some (.cells #[.pointer (some ⟨b, 0, none⟩), .int .i64 fr, .map (some M)] 185 (0, 0)) ∧ wr.heap[w.heap.size + 1]? = some (.cells (iv .i64 (readX L)) 232 (0, 0)) ∧
        Rep wr F b A c cs ∧ NamedM wr M (ns ++ [z] ++ objTo (readX L) j) ∧ okN A.n fr (ns ++ [z] ++ objTo (readX L) j) = true) (fun c0 _ => 7 - (intOf c0).toNat)
      case atStart => exact ⟨0, by omega, rfl, unhide HKR, unhide K5, unhide KR, unhide R4, by rw [show objTo (readX L) 0 = [] from rfl, List.append_nil]; exact unhide HM4, by rw [show objTo (readX L) 0 = [] from rfl, List.append_nil]; exact unhide HOK⟩
      case round =>
        clear HKR K5 KR R4 HM4 HOK
        obtain ⟨j, hj, rfl, hkr, g0, g1, rr, nm, ok⟩ := hrel
        have HKR := hide hkr
        have G0 := hide g0
        have G1 := hide g1
        have RR := hide rr
        have NM := hide nm
        have OK := hide ok
        have hsr := lt_of_heap g1
        clear hkr g0 g1 rr nm ok
        by_cases hlt : j < 7
        · have hix := fun W => unhide HIX W j hlt
          have hmay := unhide HXM' j hlt
          have hwl := wf_l hmay
          have HOB : Hid (objTo (readX L) (j + 1) = objTo (readX L) j ++ (if (enAt (readX L) j).k = 0 then [] else [(enAt (readX L) j).l])) := rfl
          obtain ⟨r, hr⟩ := objTo_seven (readX L) (j + 1) (by omega)
          have HR := hide hr
          have hol := objTo_len (readX L) j
          have hlen2 : (ns ++ [z] ++ objTo (readX L) j).length < 1000 := by simp only [List.length_append, List.length_singleton]; omega
          have n3 := ev_new (enAt (readX L) j) 41
          have z3 := ev_size (enAt (readX L) j)
          have c0' : (wr.alloc (.cells (ev (enAt (readX L) j)) 41)).cell? ⟨wr.heap.size, 0, none⟩ = some (.int .i64 (enAt (readX L) j).k) := by rw [cell_of_block (heap_new wr _)]; rfl
          have c2' : (wr.alloc (.cells (ev (enAt (readX L) j)) 41)).cell? ⟨wr.heap.size, 2, none⟩ = some (.int .i64 (enAt (readX L) j).l) := by rw [cell_of_block (heap_new wr _)]; rfl
          have C0 := hide c0'
          have C2 := hide c2'
          clear hr hmay hol c0' c2'
          generalize hE : enAt (readX L) j = E at *
          generalize ev E = EV at *
          clear hE
          have hka : Keeps (fun _ => False) wr (wr.alloc (.cells EV 41)) := (Keeps.refl _ _).alloc _
          have HKA : Hid (Keeps (· = M) w (wr.alloc (.cells EV 41))) := (unhide HKR).alloc _
          have GA0 := hide ((hka.block _ (by omega) id).trans (unhide G0))
          have GA1 := hide ((hka.block _ (by omega) id).trans (unhide G1))
          have RA := hide ((unhide RR).keeps hka (fun _ _ => id))
          have NA := hide ((unhide NM).keeps hka id)
          clear hka G0 G1 RR NM HKR
          go_upto_region 10 with fail
          clear n3 z3
          generalize wr.alloc (.cells EV 41) = WA at *
          have hsa := lt_of_heap (unhide GA1)
          have e0 := unhide C0
          have e2 := unhide C2
          clear C0 C2
          by_cases hk0 : E.k = 0
          · have hk1 : (E.k != 0) = false := by simpa using hk0
            have ho : objTo (readX L) (j + 1) = objTo (readX L) j := by rw [unhide HOB, if_pos hk0, List.append_nil]
            have HO := hide ho
            clear ho hk0 HOB
            go_wp2_with fail
            go_roundw
            case rel => exact ⟨j + 1, by omega, by go_num, unhide HKA, unhide GA0, unhide GA1, unhide RA, by rw [unhide HO]; exact unhide NA, by rw [unhide HO]; exact unhide OK⟩
            case measure => simp [intOf]; omega
          · have hk1 : (E.k != 0) = true := by simpa using hk0
            have ho : ns ++ [z] ++ objTo (readX L) (j + 1) = (ns ++ [z] ++ objTo (readX L) j) ++ [E.l] := by rw [unhide HOB, if_neg hk0, List.append_assoc (ns ++ [z])]
            have HO := hide ho
            have CN := hide (name_any (unhide RA) M _ (unhide NA) fr E.l hwl hlen2)
            have HFAIL : Hid (nmB A.n fr (ns ++ [z] ++ objTo (readX L) j) E.l = false → okN A.n fr (lfN A ns z) = false) := fun e => bool_not fun hh => by
              rw [unhide HLN, unhide HR, ← List.append_assoc] at hh
              have := okN_prefix hh
              rw [unhide HO, okN_snoc, e] at this
              exact absurd this.2 (by simp)
            have d0 : WA.cell? ⟨w.heap.size, 0, none⟩ = some (.pointer (some ⟨b, 0, none⟩)) := by rw [cell_of_block (unhide GA0)]; rfl
            have d1 : WA.cell? ⟨w.heap.size, 1, none⟩ = some (.int .i64 fr) := by rw [cell_of_block (unhide GA0)]; rfl
            have d2 : WA.cell? ⟨w.heap.size, 2, none⟩ = some (.map (some M)) := by rw [cell_of_block (unhide GA0)]; rfl
            clear ho hk0 HOB hwl hlen2
            go_wp2_with fail
            refine (unhide CN).mono ?_
            rintro e w5 ⟨rfl, hk5, hn5⟩
            have HKR := hide ((unhide HKA).trans' hk5)
            have K5 := hide ((hk5.block _ (by omega) (by omega)).trans (unhide GA0))
            have KR := hide ((hk5.block _ (by omega) (by omega)).trans (unhide GA1))
            have R5 := hide ((unhide RA).keeps hk5 (fun x hx e => unhide HFM (e ▸ hx)))
            have N5 := hide hn5
            clear hk5 hn5 CN d0 d1 d2 e0 e2 HKA GA0 GA1 RA NA
            cases hq : nmB A.n fr (ns ++ [z] ++ objTo (readX L) j) E.l with
            | false =>
              have HV := hide (unhide HB3 (unhide HFAIL hq))
              have ZR := ZX
              clear hq HFAIL
              go_wp2_with (first | (refine wpList_build0 rfl 232 rfl _ build21 ?_) | (refine wpList_store_row rfl 232 _ _ rfl (w.heap.size + 1) (iv .i64 (zrow 7)) rfl rfl _ _ (unhide KR) s21z (unhide ZR) (iv_one _ _) ?_))
              refine bodyPost_ret (v := .tuple #[.agg (iv .i64 (zrow 7)), .bool false]) (results_two Tryz.results161 _ _ (w.heap.size + 1) 232 (iv .i64 (zrow 7)) (0, 0) _ _ rfl rfl (setRow_heap _ _ _ _ _ _ (unhide KR)) Tryz.underlying232 rfl s21z) rfl ?_
              exact ⟨by rw [(unhide HV).1, (unhide HV).2], Keeps.setRow (unhide HKR) (Or.inr (by omega)) _, fun h => by rw [(unhide HV).2] at h; cases h⟩
            | true =>
              have NN := hide (unhide N5 hq)
              have OO : Hid (okN A.n fr ((ns ++ [z] ++ objTo (readX L) j) ++ [E.l]) = true) := (okN_snoc _ _ _ _).2 ⟨unhide OK, hq⟩
              clear hq HFAIL N5
              go_wp2_with fail
              go_roundw
              case rel => exact ⟨j + 1, by omega, by go_num, unhide HKR, unhide K5, unhide KR, unhide R5, by rw [unhide HO]; exact unhide NN, by rw [unhide HO]; exact unhide OO⟩
              case measure => simp [intOf]; omega
        · obtain rfl : j = 7 := by omega
          have HV := hide (unhide HB5 (by rw [unhide HLN]; exact unhide OK))
          have HNM : Hid (NamedM wr M (lfN A ns z)) := by show NamedM _ _ _; rw [unhide HLN]; exact unhide NM
          clear HB3 HB5 OK NM
          go_wp2_with (first | (with_reducible refine wpList_load_row (by with_unfolding_all rfl) 232 _ (by with_unfolding_all rfl) (w.heap.size + 1) (by with_unfolding_all rfl) _ _ _ _ (unhide G1) Tryz.underlying232 (by with_unfolding_all rfl) s21 ?_) | (with_reducible refine wpList_store_row (by with_unfolding_all rfl) 232 _ _ (by with_unfolding_all rfl) (w.heap.size + 1) (iv .i64 (readX L)) (by with_unfolding_all rfl) (by with_unfolding_all rfl) _ _ (unhide G1) s21 rfl (iv_one _ _) ?_))
          refine bodyPost_ret (v := .tuple #[.agg (iv .i64 (readX L)), .bool true]) (results_two Tryz.results161 _ _ (w.heap.size + 1) 232 (iv .i64 (readX L)) (0, 0) _ _ rfl rfl (setRow_heap _ _ _ _ _ _ (unhide G1)) Tryz.underlying232 rfl s21) rfl ?_
          exact ⟨by rw [(unhide HV).1, (unhide HV).2], Keeps.setRow (unhide HKR) (Or.inr (by omega)) _, fun _ => (unhide HNM).keeps (F := (· = w.heap.size + 1)) (Keeps.setRow (F := (· = w.heap.size + 1)) (Keeps.refl _ _) (Or.inl rfl) _) (by omega)⟩

end Go.Proofs.YtiafhcgaikapcaaGreat


/-
  radix's directory: what read returns; only the map of the names turns.
-/
namespace Go.Proofs.YtiafhcgaikapcaaGreat
open Go.ChangeShapes Go.WideShapes Go.ChangeAt Go.RowKit Go.Joins
set_option maxRecDepth 10000
set_option linter.unusedVariables false
set_option linter.unusedSimpArgs false

theorem xresults_three {fn : Func} {p q u : Tmp} {P : Program} {ty ty2 : TypeId} (h : fn.results = #[.cell p ty, .cell q ty2, .tmp u]) (tmps : Array Value) (w : World) (g g2 : Nat) (t t2 : TypeId) (cs ds : Array Value) (fr fr2 : Nat × Nat) (d d2 : TypeDesc) (v : Value)
    (hp : tmps.getD p undef = .pointer (some ⟨g, 0, none⟩)) (hq : tmps.getD q undef = .pointer (some ⟨g2, 0, none⟩)) (hv : tmps.getD u undef = v) (hg : w.heap[g]? = some (.cells cs t fr)) (hg2 : w.heap[g2]? = some (.cells ds t2 fr2))
    (hu : P.underlying ty = some d) (hd : (match d with | .struct _ | .array _ _ => true | _ => false) = true) (hi : (P.info? ty).map (·.size) = some cs.size)
    (hu2 : P.underlying ty2 = some d2) (hd2 : (match d2 with | .struct _ | .array _ _ => true | _ => false) = true) (hi2 : (P.info? ty2).map (·.size) = some ds.size) :
    (results fn tmps).run P w = .ok (.tuple #[.agg cs, .agg ds, v]) w := by
  have hp' : tmps[p]?.getD undef = .pointer (some ⟨g, 0, none⟩) := by simpa using hp
  have hq' : tmps[q]?.getD undef = .pointer (some ⟨g2, 0, none⟩) := by simpa using hq
  have hv' : tmps[u]?.getD undef = v := by simpa using hv
  simp only [results, h]
  simp [Sem.run_bind, Result.andThen, hp', hq', hv', asAddr, run_loadVar_row w g t ty cs fr d hg hu hd hi, run_loadVar_row w g2 t2 ty2 ds fr2 d2 hg2 hu2 hd2 hi2]
theorem zero147 : Tryz.zeroCells66 = iv .i64 (zrow 49) := by rw [zrow_zero]; kernel_rfl
theorem zero7 : (#[.int .i64 0, .int .i64 0, .int .i64 0, .int .i64 0, .int .i64 0, .int .i64 0, .int .i64 0] : Array Value) = iv .i64 zs7 := rfl

def RdPost (w : World) (M : Nat) (t l : List Int) (ok : Bool) (e : Ending) (w' : World) : Prop := e = .returned (.tuple #[.agg (iv .i64 t), .agg (iv .i64 l), .bool ok]) ∧ Keeps (· = M) w w'
def rdT (A : Mm) (fr root : Int) : List Int := if loadB A fr root then tabA A root else zrow 49
def rdL (A : Mm) (fr root : Int) : List Int := if loadB A fr root then lsA A root else zs7
theorem wf_small (z : Int) (h0 : 0 ≤ z) (h1 : z < 1024) : (Lit.int .i64 z).wf = true := by
  simp [Lit.wf, IntKind.min, IntKind.max, IntKind.signed, IntKind.bits]; omega
theorem tabF_at (A : Mm) (root : Int) (k j : Nat) (hj : j < 7) : tabF A root (7 * k + j) = enAt (readX (leafA A root k)) j := by
  unfold tabF
  rw [show (7 * k + j) / 7 = k by omega, show (7 * k + j) % 7 = j by omega]
set_option maxHeartbeats 8000000 in
theorem dread_any {w : World} {F : Nat → Prop} {b c : Nat} {A : Mm} {cs : Nat → Cel} (h : Rep w F b A c cs) (hon : A.on = true) (hn : A.n ≤ 1024) (hlk : ∀ i, (A.l i).ok) (M : Nat) (hFM : ¬ F M) (hM : NamedM w M []) (fr root : Int) (hz : (Lit.int .i64 root).wf = true) :
    Calls Tryz.prog 102 #[.agg #[.pointer (some ⟨b, 0, none⟩), .int .i64 fr, .map (some M)], .int .i64 root] w (RdPost w M (rdT A fr root) (rdL A fr root) (loadB A fr root)) := by
  have hML := hM.lt
  obtain ⟨W1, hW1⟩ : ∃ W1, W1 = ((w.alloc (.cells #[.pointer (some ⟨b, 0, none⟩), .int .i64 fr, .map (some M)] 185)).alloc (.cells (iv .i64 (zrow 49)) 66)).alloc (.cells (iv .i64 zs7) 95) := ⟨_, rfl⟩
  have HK1 : Hid (Keeps (fun _ => False) w W1) := by rw [hW1]; exact (((Keeps.refl _ w).alloc _).alloc _).alloc _
  have R1 := hide (h.keeps (unhide HK1) (fun _ _ => id))
  have C1 := hide (dline_any (unhide R1) hon hn M hFM [] (hM.keeps (unhide HK1) id) fr root hz (by decide))
  have G1 : Hid (W1.heap[w.heap.size]? = some (.cells #[.pointer (some ⟨b, 0, none⟩), .int .i64 fr, .map (some M)] 185 (0, 0))) := by rw [hW1]; exact (heap3 w _ _ _).1
  have G2 : Hid (W1.heap[w.heap.size + 1]? = some (.cells (iv .i64 (zrow 49)) 66 (0, 0))) := by rw [hW1]; exact (heap3 w _ _ _).2.1
  have G3 : Hid (W1.heap[w.heap.size + 1 + 1]? = some (.cells (iv .i64 zs7) 95 (0, 0))) := by rw [hW1]; exact (heap3 w _ _ _).2.2
  have HW1 := hide hW1
  have s147z := s147_of (zrow 49) (zrow_len 49)
  have s7z := s7_of zs7 rfl
  have HFM := hide hFM
  have HFL := hide h.lt
  have n8 := iv_newx .u64 (lnV' A.n fr A [] root) 83 8 (lnV'_len _ _ _ _ _)
  have z8 : (iv .u64 (lnV' A.n fr A [] root)).size = 8 := by rw [iv_size, lnV'_len]
  have HNO : Hid (loadB A fr root = false → rdT A fr root = zrow 49 ∧ rdL A fr root = zs7 ∧ loadB A fr root = false) := fun e => ⟨by unfold rdT; rw [e]; rfl, by unfold rdL; rw [e]; rfl, e⟩
  have HLV : Hid (nmB A.n fr [] root = true → lnV' A.n fr A [] root = lineA A root.toNat) := fun e => by unfold lnV'; rw [e]; rfl
  have HN0 : Hid (okN A.n fr [root] = true ↔ nmB A.n fr [] root = true) := by
    have := okN_snoc A.n fr [] root
    rw [List.nil_append] at this
    show _ ↔ _
    rw [this]
    exact ⟨fun h => h.2, fun h => ⟨by rw [okN_iff]; simp, h⟩⟩
  clear h hM hW1 hFM
  go_enter Tryz.func102, Tryz.ntmps102
  go_upto_region 1 with fail
  rw [zero147, zero7, ← unhide HW1]
  have d0 : W1.cell? ⟨w.heap.size, 0, none⟩ = some (.pointer (some ⟨b, 0, none⟩)) := by rw [cell_of_block (unhide G1)]; rfl
  have d1 : W1.cell? ⟨w.heap.size, 1, none⟩ = some (.int .i64 fr) := by rw [cell_of_block (unhide G1)]; rfl
  have d2 : W1.cell? ⟨w.heap.size, 2, none⟩ = some (.map (some M)) := by rw [cell_of_block (unhide G1)]; rfl
  clear HW1
  go_wp2_with fail
  refine (unhide C1).mono ?_
  rintro e w2 ⟨rfl, hk2, hn2⟩
  have hs1 := lt_of_heap (unhide G3)
  have hs2 := hk2.size
  have K1 := hide ((Below.heap_alloc w2 (.cells (iv .u64 (lnV' A.n fr A [] root)) 83) w.heap.size (by omega)).trans ((hk2.block _ (by omega) (by omega)).trans (unhide G1)))
  have KT := hide ((Below.heap_alloc w2 (.cells (iv .u64 (lnV' A.n fr A [] root)) 83) (w.heap.size + 1) (by omega)).trans ((hk2.block _ (by omega) (by omega)).trans (unhide G2)))
  have KL := hide ((Below.heap_alloc w2 (.cells (iv .u64 (lnV' A.n fr A [] root)) 83) (w.heap.size + 1 + 1) (by omega)).trans ((hk2.block _ (by omega) (by omega)).trans (unhide G3)))
  have K6 := hide (heap_new w2 (.cells (iv .u64 (lnV' A.n fr A [] root)) 83))
  have R2 := hide (((unhide R1).keeps hk2 (fun x hx e => unhide HFM (e ▸ hx))).alloc (.cells (iv .u64 (lnV' A.n fr A [] root)) 83))
  have HKR : Hid (Keeps (· = M) w (w2.alloc (.cells (iv .u64 (lnV' A.n fr A [] root)) 83))) := (((unhide HK1).mono fun k hk hf => hf.elim).trans' hk2).alloc _
  have HN2 := hide hn2
  clear hk2 hn2 C1 G1 G2 G3 R1 HK1 d0 d1 d2
  have HM2 : Hid (nmB A.n fr [] root = true → NamedM (w2.alloc (.cells (iv .u64 (lnV' A.n fr A [] root)) 83)) M [root]) := fun hb => (unhide HN2 hb).keeps (F := fun _ => False) ((Keeps.refl _ _).alloc _) id
  go_upto_region 2 with fail
  clear n8 z8 HN2
  generalize w2.alloc (.cells (iv .u64 (lnV' A.n fr A [] root)) 83) = W2 at *
  cases hb : nmB A.n fr [] root with
  | false =>
    have HV := hide (unhide HNO (bool_not fun hh => by have := (unhide HN0).1 ((loadB_iff A fr root).1 hh).1.1; rw [hb] at this; cases this))
    clear HNO HLV hb HN0 HM2
    have KT1 := hide ((setRow_other W2 (w.heap.size + 1) (w.heap.size + 1 + 1) (iv .i64 (zrow 49)) (by omega)).trans (unhide KL))
    have KT2 := hide ((setRow_other (W2.setRow (w.heap.size + 1) (iv .i64 (zrow 49))) (w.heap.size + 1 + 1) (w.heap.size + 1) (iv .i64 zs7) (by omega)).trans (setRow_heap _ _ _ (iv .i64 (zrow 49)) _ _ (unhide KT)))
    go_wp2_with (first | (refine wpList_build0 rfl 66 rfl _ build147 ?_) | (refine wpList_build0 rfl 95 rfl _ build7x ?_) | (with_reducible refine wpList_store_row (by with_unfolding_all rfl) 66 _ _ (by with_unfolding_all rfl) (w.heap.size + 1) (iv .i64 (zrow 49)) (by with_unfolding_all rfl) (by with_unfolding_all rfl) _ _ (unhide KT) s147z rfl (iv_one _ _) ?_) | (with_reducible refine wpList_store_row (by with_unfolding_all rfl) 95 _ _ (by with_unfolding_all rfl) (w.heap.size + 1 + 1) (iv .i64 zs7) (by with_unfolding_all rfl) (by with_unfolding_all rfl) _ _ (unhide KT1) s7z rfl (iv_one _ _) ?_))
    refine bodyPost_ret (v := .tuple #[.agg (iv .i64 (zrow 49)), .agg (iv .i64 zs7), .bool false]) (xresults_three Tryz.results102 _ _ (w.heap.size + 1) (w.heap.size + 1 + 1) 66 95 (iv .i64 (zrow 49)) (iv .i64 zs7) (0, 0) (0, 0) _ _ _ rfl rfl rfl (unhide KT2) (setRow_heap _ _ _ _ _ _ (unhide KT1)) Tryz.underlying66 rfl s147z Tryz.underlying95 rfl s7z) rfl ?_
    exact ⟨by rw [(unhide HV).1, (unhide HV).2.1, (unhide HV).2.2], Keeps.setRow (Keeps.setRow (unhide HKR) (Or.inr (by omega)) _) (Or.inr (by omega)) _⟩
  | true =>
    have HM2' := hide (unhide HM2 hb)
    have HOK : Hid (okN A.n fr [root] = true) := (unhide HN0).2 hb
    have hL := unhide HLV hb
    rw [hL] at K6
    rw [hL]
    have CR := hide (readRoot_any (lineA A root.toNat) (lineA_len _ _) (lineA_wf A _ (hlk _)))
    have s8 := s8_of (lineA A root.toNat) (lineA_len _ _)
    have e7 : (iv .i64 zs7).size = (iv .i64 (readTV (lineA A root.toNat))).size := by rw [iv_size, iv_size, readTV_len]; rfl
    have s7 := s7_of (readTV (lineA A root.toNat)) (readTV_len _)
    have HXV : Hid (isT (lineA A root.toNat) = true → readTV (lineA A root.toNat) = lsA A root) := fun e => by unfold readTV lsA; rw [if_pos e]
    have HB2 : Hid (isT (lineA A root.toNat) = false → loadB A fr root = false) := fun e => bool_not fun hh => by have := ((loadB_iff A fr root).1 hh).1.2; rw [e] at this; cases this
    have HBD : Hid (isT (lineA A root.toNat) = true → ∀ k, k < 7 → 0 ≤ (lsA A root).getD k 0 ∧ (lsA A root).getD k 0 < 1024) := fun e k hk => lsA_bd A root e k hk
    have HIF : Hid (isT (lineA A root.toNat) = true → (∀ k, k < 7 → isX (leafA A root k) = true) → okN A.n fr (nsTo A root 7) = true → loadB A fr root = true) := fun e1 e2 e3 => (loadB_iff A fr root).2 ⟨⟨unhide HOK, e1⟩, e2, e3⟩
    clear hL HLV hb hz HM2 HN0
    generalize lineA A root.toNat = L at *
    go_wp2_with (with_reducible refine wpList_load_row (by with_unfolding_all rfl) 83 _ (by with_unfolding_all rfl) w2.heap.size (by with_unfolding_all rfl) _ _ _ _ (unhide K6) Tryz.underlying83 (by with_unfolding_all rfl) s8 ?_)
    refine (unhide CR _).mono ?_
    rintro e w3 ⟨rfl, hb3⟩
    have hs3 := hb3.size
    have hr3 := lt_of_heap (unhide KL)
    have K1' := hide ((hb3.block _ (by omega)).trans (unhide K1))
    have KT' := hide ((hb3.block _ (by omega)).trans (unhide KT))
    have KL' := hide ((hb3.block _ (by omega)).trans (unhide KL))
    have hk3 : Keeps (fun _ => False) W2 w3 := Keeps.of_below hb3
    have R3 := hide ((unhide R2).keeps hk3 (fun _ _ => id))
    have HKR' : Hid (Keeps (· = M) w w3) := (unhide HKR).trans' (hk3.mono fun k hk hf => hf.elim)
    have HM3 := hide ((unhide HM2').keeps hk3 id)
    clear hb3 hk3 CR K1 KT KL K6 R2 HKR HM2'
    have K5 := hide ((setRow_other w3 (w.heap.size + 1 + 1) w.heap.size (iv .i64 (readTV L)) (by omega)).trans (unhide K1'))
    have KT := hide ((setRow_other w3 (w.heap.size + 1 + 1) (w.heap.size + 1) (iv .i64 (readTV L)) (by omega)).trans (unhide KT'))
    have KL := hide (setRow_heap w3 (w.heap.size + 1 + 1) _ (iv .i64 (readTV L)) _ _ (unhide KL'))
    have hk4 : Keeps (· = w.heap.size + 1 + 1) w3 (w3.setRow (w.heap.size + 1 + 1) (iv .i64 (readTV L))) := Keeps.setRow (F := (· = w.heap.size + 1 + 1)) (Keeps.refl _ _) (Or.inl rfl) _
    have HKR : Hid (Keeps (· = M) w (w3.setRow (w.heap.size + 1 + 1) (iv .i64 (readTV L)))) := Keeps.setRow (unhide HKR') (Or.inr (by omega)) _
    have HM4 := hide ((unhide HM3).keeps hk4 (by omega))
    have ZL : Hid ((iv .i64 (readTV L)).size = (iv .i64 zs7).size) := e7.symm
    have R4 := hide ((unhide R3).keeps hk4 (fun x hx e => by have := unhide HFL x hx; omega))
    clear hk4 HKR' HM3 R3 K1' KT'
    go_upto_region 5 with (with_reducible refine wpList_store_row (by with_unfolding_all rfl) 95 _ _ (by with_unfolding_all rfl) (w.heap.size + 1 + 1) (iv .i64 (readTV L)) (by with_unfolding_all rfl) (by with_unfolding_all rfl) _ _ (unhide KL') s7 e7 (iv_one _ _) ?_)
    clear KL'
    generalize w3.setRow (w.heap.size + 1 + 1) (iv .i64 (readTV L)) = w4 at *
    cases hi : isT L with
    | false =>
      have HV := hide (unhide HNO (unhide HB2 hi))
      clear HNO HB2 hi HXV HBD HIF
      have KT1 := hide ((setRow_other w4 (w.heap.size + 1) (w.heap.size + 1 + 1) (iv .i64 (zrow 49)) (by omega)).trans (unhide KL))
      have KT2 := hide ((setRow_other (w4.setRow (w.heap.size + 1) (iv .i64 (zrow 49))) (w.heap.size + 1 + 1) (w.heap.size + 1) (iv .i64 zs7) (by omega)).trans (setRow_heap _ _ _ (iv .i64 (zrow 49)) _ _ (unhide KT)))
      go_wp2_with (first | (refine wpList_build0 rfl 66 rfl _ build147 ?_) | (refine wpList_build0 rfl 95 rfl _ build7x ?_) | (with_reducible refine wpList_store_row (by with_unfolding_all rfl) 66 _ _ (by with_unfolding_all rfl) (w.heap.size + 1) (iv .i64 (zrow 49)) (by with_unfolding_all rfl) (by with_unfolding_all rfl) _ _ (unhide KT) s147z rfl (iv_one _ _) ?_) | (with_reducible refine wpList_store_row (by with_unfolding_all rfl) 95 _ _ (by with_unfolding_all rfl) (w.heap.size + 1 + 1) (iv .i64 zs7) (by with_unfolding_all rfl) (by with_unfolding_all rfl) _ _ (unhide KT1) s7z (unhide ZL) (iv_one _ _) ?_))
      refine bodyPost_ret (v := .tuple #[.agg (iv .i64 (zrow 49)), .agg (iv .i64 zs7), .bool false]) (xresults_three Tryz.results102 _ _ (w.heap.size + 1) (w.heap.size + 1 + 1) 66 95 (iv .i64 (zrow 49)) (iv .i64 zs7) (0, 0) (0, 0) _ _ _ rfl rfl rfl (unhide KT2) (setRow_heap _ _ _ _ _ _ (unhide KT1)) Tryz.underlying66 rfl s147z Tryz.underlying95 rfl s7z) rfl ?_
      exact ⟨by rw [(unhide HV).1, (unhide HV).2.1, (unhide HV).2.2], Keeps.setRow (Keeps.setRow (unhide HKR) (Or.inr (by omega)) _) (Or.inr (by omega)) _⟩
    | true =>
      have hXV := unhide HXV hi
      rw [hXV] at KL ZL s7
      have HBD' := hide (unhide HBD hi)
      have HIF' := hide (unhide HIF hi)
      have ZL7 := ZL
      clear HXV HBD HB2 HIF hi hXV ZL
      have HIX : Hid (∀ (W : World) (j : Nat), j < 7 → Sem.run Tryz.prog (Instr.index 95 (.agg (iv .i64 (lsA A root))) (.int .i64 (j : Int))) W = .ok (.int .i64 ((lsA A root).getD j 0)) W) := fun W j hj => run_index7 W _ .i64 j hj _ (iv_get _ _ _ (by rw [lsA_len]; exact hj))
      have HT0 : Hid (rowE 49 (upTo (tabF A root) (7 * 0)) = zrow 49) := upTo_zero 49 _
      go_wp2_with (with_reducible refine wpList_load_row (by with_unfolding_all rfl) 95 _ (by with_unfolding_all rfl) (w.heap.size + 1 + 1) (by with_unfolding_all rfl) _ _ _ _ (unhide KL) Tryz.underlying95 (by with_unfolding_all rfl) s7 ?_)
      go_loopw [34] (fun c0 wr => ∃ k : Nat, k ≤ 7 ∧ c0 = .int .i64 k ∧ Keeps (· = M) w wr ∧ wr.heap[w.heap.size]? = some (.cells #[.pointer (some ⟨b, 0, none⟩), .int .i64 fr, .map (some M)] 185 (0, 0)) ∧ wr.heap[w.heap.size + 1]? = some (.cells (iv .i64 (rowE 49 (upTo (tabF A root) (7 * k)))) 66 (0, 0)) ∧
        wr.heap[w.heap.size + 1 + 1]? = some (.cells (iv .i64 (lsA A root)) 95 (0, 0)) ∧ Rep wr F b A c cs ∧ NamedM wr M (nsTo A root k) ∧ okN A.n fr (nsTo A root k) = true ∧ ∀ i, i < k → isX (leafA A root i) = true) (fun c0 _ => 7 - (intOf c0).toNat)
      case atStart => exact ⟨0, by omega, rfl, unhide HKR, unhide K5, by rw [unhide HT0]; exact unhide KT, unhide KL, unhide R4, unhide HM4, unhide HOK, fun i hi => by omega⟩
      case round =>
        clear HKR K5 KT KL R4 HM4 HOK HT0
        obtain ⟨k, hk, rfl, hkr, g0, g1, g2, rr, nm, ok, hx⟩ := hrel
        have HKR := hide hkr
        have G0 := hide g0
        have G1 := hide g1
        have G2 := hide g2
        have RR := hide rr
        have NM := hide nm
        have OK := hide ok
        have HX := hide hx
        have hsr := lt_of_heap g2
        clear hkr g0 g1 g2 rr nm ok hx
        by_cases hlt : k < 7
        · have hix := fun W => unhide HIX W k hlt
          obtain ⟨zb0, zb1⟩ := unhide HBD' k hlt
          have hwz : (Lit.int .i64 ((lsA A root).getD k 0)).wf = true := wf_small _ zb0 zb1
          have hnl := nsTo_len A root k
          have CL := hide (dleaf_any (unhide RR) hon hn hlk M (unhide HFM) (nsTo A root k) (unhide NM) fr ((lsA A root).getD k 0) (unhide OK) hwz (by omega))
          have d0 : wr.cell? ⟨w.heap.size, 0, none⟩ = some (.pointer (some ⟨b, 0, none⟩)) := by rw [cell_of_block (unhide G0)]; rfl
          have d1 : wr.cell? ⟨w.heap.size, 1, none⟩ = some (.int .i64 fr) := by rw [cell_of_block (unhide G0)]; rfl
          have d2 : wr.cell? ⟨w.heap.size, 2, none⟩ = some (.map (some M)) := by rw [cell_of_block (unhide G0)]; rfl
          have n21 := iv_newx .i64 (lfV A.n fr A (nsTo A root k) ((lsA A root).getD k 0)) 232 21 (lfV_len _ _ _ _ _)
          have z21 : (iv .i64 (lfV A.n fr A (nsTo A root k) ((lsA A root).getD k 0))).size = 21 := by rw [iv_size, lfV_len]
          have HFA : Hid (lfB A.n fr A (nsTo A root k) ((lsA A root).getD k 0) = false → loadB A fr root = false) := fun e => bool_not fun hh => by
            obtain ⟨-, h1, h2⟩ := (loadB_iff A fr root).1 hh
            obtain ⟨r, hr⟩ := nsTo_seven A root (k + 1) (by omega)
            rw [hr] at h2
            have h3 := okN_prefix h2
            have h4 : okN A.n fr (nsTo A root k ++ [(lsA A root).getD k 0]) = true := okN_prefix h3
            have h5 := ((okN_snoc _ _ _ _).1 h4).2
            have h6 : lfB A.n fr A (nsTo A root k) ((lsA A root).getD k 0) = true := by
              unfold lfB
              rw [h5, show isX (lineA A ((lsA A root).getD k 0).toNat) = true from h1 k hlt]
              exact h3
            rw [e] at h6; cases h6
          have HTR : Hid (lfB A.n fr A (nsTo A root k) ((lsA A root).getD k 0) = true → lfV A.n fr A (nsTo A root k) ((lsA A root).getD k 0) = readX (leafA A root k) ∧ isX (leafA A root k) = true ∧ okN A.n fr (nsTo A root (k + 1)) = true) := fun e => by
            refine ⟨by unfold lfV; rw [if_pos e]; rfl, ?_⟩
            unfold lfB at e
            simp only [Bool.and_eq_true] at e
            exact ⟨e.2.1, e.2.2⟩
          have HNN : Hid (lfN A (nsTo A root k) ((lsA A root).getD k 0) = nsTo A root (k + 1)) := rfl
          generalize hzz : (lsA A root).getD k 0 = zz at *
          clear hzz hwz hnl
          go_wp2_with fail
          refine (unhide CL).mono ?_
          rintro e w5 ⟨rfl, hk5, hn5⟩
          have hs5 := hk5.size
          have hka : Keeps (· = M) wr (w5.alloc (.cells (iv .i64 (lfV A.n fr A (nsTo A root k) zz)) 232)) := hk5.alloc _
          have HKR2 := hide ((unhide HKR).trans' hka)
          have K0 := hide ((hka.block _ (by omega) (by omega)).trans (unhide G0))
          have KT := hide ((hka.block _ (by omega) (by omega)).trans (unhide G1))
          have KL := hide ((hka.block _ (by omega) (by omega)).trans (unhide G2))
          have R5 := hide ((unhide RR).keeps hka (fun x hx e => unhide HFM (e ▸ hx)))
          have N5 : Hid (lfB A.n fr A (nsTo A root k) zz = true → NamedM (w5.alloc (.cells (iv .i64 (lfV A.n fr A (nsTo A root k) zz)) 232)) M (nsTo A root (k + 1))) := fun hb => by
            rw [← unhide HNN]; exact (hn5 hb).keeps (F := fun _ => False) ((Keeps.refl _ _).alloc _) id
          have KX := hide (heap_new w5 (.cells (iv .i64 (lfV A.n fr A (nsTo A root k) zz)) 232))
          clear hka hk5 hn5 CL d0 d1 d2 HKR G0 G1 G2 RR NM
          go_upto_region 11 with fail
          clear n21 z21
          generalize w5.alloc (.cells (iv .i64 (lfV A.n fr A (nsTo A root k) zz)) 232) = WA at *
          have HKR := HKR2
          have ZT49 : Hid ((iv .i64 (rowE 49 (upTo (tabF A root) (7 * k)))).size = (iv .i64 (zrow 49)).size) := by show _ = _; rw [iv_size, iv_size, rowE_len, zrow_len]
          cases hq : lfB A.n fr A (nsTo A root k) zz with
          | false =>
            have HV := hide (unhide HNO (unhide HFA hq))
            clear HNO hq HFA HTR N5
            have KT1 := hide ((setRow_other WA (w.heap.size + 1) (w.heap.size + 1 + 1) (iv .i64 (zrow 49)) (by omega)).trans (unhide KL))
            have KT2 := hide ((setRow_other (WA.setRow (w.heap.size + 1) (iv .i64 (zrow 49))) (w.heap.size + 1 + 1) (w.heap.size + 1) (iv .i64 zs7) (by omega)).trans (setRow_heap _ _ _ (iv .i64 (zrow 49)) _ _ (unhide KT)))
            go_wp2_with (first | (refine wpList_build0 rfl 66 rfl _ build147 ?_) | (refine wpList_build0 rfl 95 rfl _ build7x ?_) | (with_reducible refine wpList_store_row (by with_unfolding_all rfl) 66 _ _ (by with_unfolding_all rfl) (w.heap.size + 1) (iv .i64 (zrow 49)) (by with_unfolding_all rfl) (by with_unfolding_all rfl) _ _ (unhide KT) s147z (unhide ZT49) (iv_one _ _) ?_) | (with_reducible refine wpList_store_row (by with_unfolding_all rfl) 95 _ _ (by with_unfolding_all rfl) (w.heap.size + 1 + 1) (iv .i64 zs7) (by with_unfolding_all rfl) (by with_unfolding_all rfl) _ _ (unhide KT1) s7z (unhide ZL7) (iv_one _ _) ?_))
            refine bodyPost_ret (v := .tuple #[.agg (iv .i64 (zrow 49)), .agg (iv .i64 zs7), .bool false]) (xresults_three Tryz.results102 _ _ (w.heap.size + 1) (w.heap.size + 1 + 1) 66 95 (iv .i64 (zrow 49)) (iv .i64 zs7) (0, 0) (0, 0) _ _ _ rfl rfl rfl (unhide KT2) (setRow_heap _ _ _ _ _ _ (unhide KT1)) Tryz.underlying66 rfl s147z Tryz.underlying95 rfl s7z) rfl ?_
            exact ⟨by rw [(unhide HV).1, (unhide HV).2.1, (unhide HV).2.2], Keeps.setRow (Keeps.setRow (unhide HKR) (Or.inr (by omega)) _) (Or.inr (by omega)) _⟩
          | true =>
            obtain ⟨t1, t2, t3⟩ := unhide HTR hq
            have NN := hide (unhide N5 hq)
            have OO := hide t3
            have HX2 : Hid (∀ i, i < k + 1 → isX (leafA A root i) = true) := fun i hi => by
              by_cases e : i = k
              · subst e; exact t2
              · exact unhide HX i (by omega)
            rw [t1] at KX
            rw [t1]
            have s21 := s21_of (readX (leafA A root k)) (readX_len _)
            have HIE : Hid (∀ (W : World) (j : Nat), j < 7 → Sem.run Tryz.prog (Instr.index 232 (.agg (iv .i64 (readX (leafA A root k)))) (.int .i64 (j : Int))) W = .ok (.agg (ev (tabF A root (7 * k + j)))) W) := fun W j hj => by
              rw [tabF_at A root k j hj]; exact run_index_en _ 7 Tryz.underlying232 W _ (readX_len _) .i64 j hj
            clear hq HFA HTR N5 t1 t2 t3 HX OK HNO ZT49 HKR2
            generalize readX (leafA A root k) = X at *
            go_wp2_with (with_reducible refine wpList_load_row (by with_unfolding_all rfl) 232 _ (by with_unfolding_all rfl) w5.heap.size (by with_unfolding_all rfl) _ _ _ _ (unhide KX) Tryz.underlying232 (by with_unfolding_all rfl) s21 ?_)
            go_loopw [49] (fun c1 wi => ∃ j : Nat, j ≤ 7 ∧ c1 = .int .i64 j ∧ Keeps (· = M) w wi ∧ wi.heap[w.heap.size]? = some (.cells #[.pointer (some ⟨b, 0, none⟩), .int .i64 fr, .map (some M)] 185 (0, 0)) ∧ wi.heap[w.heap.size + 1]? = some (.cells (iv .i64 (rowE 49 (upTo (tabF A root) (7 * k + j)))) 66 (0, 0)) ∧
              wi.heap[w.heap.size + 1 + 1]? = some (.cells (iv .i64 (lsA A root)) 95 (0, 0)) ∧ Rep wi F b A c cs ∧ NamedM wi M (nsTo A root (k + 1))) (fun c1 _ => 7 - (intOf c1).toNat)
            case atStart => exact ⟨0, by omega, rfl, unhide HKR, unhide K0, unhide KT, unhide KL, unhide R5, unhide NN⟩
            case round =>
              clear HKR K0 KT KL R5 NN KX s21
              obtain ⟨j, hj, rfl, hkr, g0, g1, g2, rr, nm⟩ := hrel
              have hsr2 := lt_of_heap g2
              by_cases hlj : j < 7
              · have hie := fun W => unhide HIE W j hlj
                obtain ⟨q, hq⟩ : ∃ q : Nat, q = 7 * k + j := ⟨_, rfl⟩
                have n3 := ev_new (tabF A root (7 * k + j)) 41
                have z3 := ev_size (tabF A root (7 * k + j))
                have hka : Keeps (fun _ => False) wr (wr.alloc (.cells (ev (tabF A root (7 * k + j))) 41)) := (Keeps.refl _ _).alloc _
                have HKA : Hid (Keeps (· = M) w (wr.alloc (.cells (ev (tabF A root (7 * k + j))) 41))) := hkr.alloc _
                have K0 := hide ((hka.block _ (by omega) id).trans g0)
                have KT := hide ((hka.block _ (by omega) id).trans g1)
                have KL := hide ((hka.block _ (by omega) id).trans g2)
                have RA := hide (rr.keeps hka (fun _ _ => id))
                have NA := hide (nm.keeps hka id)
                have RX : Hid ((wr.alloc (.cells (ev (tabF A root (7 * k + j))) 41)).rangeAt wr.heap.size 0 (ev (tabF A root (7 * k + j))).toList) := fun m v hv => by
                  rw [cell_of_block (heap_new wr _), Nat.zero_add, ← Array.getElem?_toList]; exact hv
                have TT := hide (there_en _ (unhide KT) (7 * k + j) (by rw [rowE_len]; omega))
                have Hset : Hid (put3 (rowE 49 (upTo (tabF A root) (7 * k + j))) (7 * k + j) (tabF A root (7 * k + j)) = rowE 49 (upTo (tabF A root) (7 * k + j + 1))) := put3_upTo 49 _ (7 * k + j) (by omega)
                clear hka hkr g0 g1 g2 rr nm
                go_upto_region 16 with fail
                clear n3 z3 hie
                generalize wr.alloc (.cells (ev (tabF A root (7 * k + j))) 41) = WI at *
                go_wp2_with (first | (with_reducible refine wpList_load_en (by with_unfolding_all rfl) _ (by with_unfolding_all rfl) wr.heap.size 0 (by with_unfolding_all rfl) (tabF A root (7 * k + j)) (unhide RX) ?_) | (with_reducible refine wpList_store_en (by with_unfolding_all rfl) _ _ (by with_unfolding_all rfl) (w.heap.size + 1) ((7 * k + j) * 3) (tabF A root (7 * k + j)) (by with_unfolding_all rfl) (by with_unfolding_all rfl) (unhide TT) ?_))
                go_roundw
                case rel =>
                  have hks : Keeps (· = w.heap.size + 1) WI (WI.setCells (w.heap.size + 1) ((7 * k + j) * 3) (ev (tabF A root (7 * k + j))).toList) := Keeps.setCells (F := (· = w.heap.size + 1)) (Or.inl rfl) _ _ _ (Keeps.refl _ _)
                  refine ⟨j + 1, by omega, by go_num, Keeps.setCells (Or.inr (by omega)) _ _ _ (unhide HKA), ?_, ?_, ?_, (unhide RA).keeps hks (fun x hx e => by have := unhide HFL x hx; omega), (unhide NA).keeps hks (by omega)⟩
                  · rw [heap_put3 (by omega)]; exact unhide K0
                  · rw [block_put3 _ (unhide KT), unhide Hset, Nat.add_assoc]
                  · rw [heap_put3 (by omega)]; exact unhide KL
                case measure => simp [intOf]; omega
              · obtain rfl : j = 7 := by omega
                have HKR := hide hkr
                have G0 := hide g0
                have G1 := hide g1
                have G2 := hide g2
                have RR := hide rr
                have NM := hide nm
                clear hkr g0 g1 g2 rr nm HIE
                go_wp2_with fail
                go_roundw
                case rel => exact ⟨k + 1, by omega, by go_num, unhide HKR, unhide G0, by rw [show 7 * (k + 1) = 7 * k + 7 by omega]; exact unhide G1, unhide G2, unhide RR, unhide NM, unhide OO, unhide HX2⟩
                case measure => simp [intOf]; omega
        · obtain rfl : k = 7 := by omega
          have hlb := unhide HIF' (unhide HX) (unhide OK)
          have HV : Hid (rdT A fr root = tabA A root ∧ rdL A fr root = lsA A root ∧ loadB A fr root = true) := ⟨by unfold rdT; rw [if_pos hlb], by unfold rdL; rw [if_pos hlb], hlb⟩
          have hta : rowE 49 (upTo (tabF A root) (7 * 7)) = tabA A root := upTo_all 49 _
          rw [hta] at G1
          have s147 : (Tryz.prog.info? 66).map (·.size) = some (iv .i64 (tabA A root)).toList.length := by rw [Array.length_toList]; exact s147_of _ (tabA_len _ _)
          have s7b : (Tryz.prog.info? 95).map (·.size) = some (iv .i64 (lsA A root)).toList.length := by rw [Array.length_toList]; exact s7
          have s147' := s147_of (tabA A root) (tabA_len _ _)
          have RT : Hid (∀ w' : World, (Keeps (· = M) w w' ∧ w'.heap[w.heap.size + 1]? = some (.cells (iv .i64 (tabA A root)) 66 (0, 0)) ∧ w'.heap[w.heap.size + 1 + 1]? = some (.cells (iv .i64 (lsA A root)) 95 (0, 0))) → w'.rangeAt (w.heap.size + 1) 0 (iv .i64 (tabA A root)).toList) := fun w' hS m u hu => by
            rw [cell_of_block hS.2.1, Nat.zero_add, ← Array.getElem?_toList]; exact hu
          have RL : Hid (∀ w' : World, (Keeps (· = M) w w' ∧ w'.heap[w.heap.size + 1]? = some (.cells (iv .i64 (tabA A root)) 66 (0, 0)) ∧ w'.heap[w.heap.size + 1 + 1]? = some (.cells (iv .i64 (lsA A root)) 95 (0, 0))) → w'.rangeAt (w.heap.size + 1 + 1) 0 (iv .i64 (lsA A root)).toList) := fun w' hS m u hu => by
            rw [cell_of_block hS.2.2, Nat.zero_add, ← Array.getElem?_toList]; exact hu
          clear hta hlb HNO HIF' HX OK NM RR G0 HIX
          go_wp2_with fail
          refine wp_region_noPanic ?_
          refine wp_region_held_drew (S := fun w' => Keeps (· = M) w w' ∧ w'.heap[w.heap.size + 1]? = some (.cells (iv .i64 (tabA A root)) 66 (0, 0)) ∧ w'.heap[w.heap.size + 1 + 1]? = some (.cells (iv .i64 (lsA A root)) 95 (0, 0))) (by kernel_rfl) ⟨(unhide HKR).drew, unhide G1, unhide G2⟩ (fun hHeld => ?_)
          clear HKR G1 G2
          refine take_at 0 61 rfl rfl (by kernel_rfl) (by kernel_rfl) (by kernel_rfl) (yieldsIf_load_mid (by rfl) 66 _ rfl (w.heap.size + 1) 0 rfl (iv .i64 (tabA A root)).toList _ (fun w' h => unhide RT w' h) Tryz.underlying66 rfl s147) hHeld ?_
          simp only [Act.put, List.setIfInBounds_toArray, List.set_cons_zero, List.set_cons_succ]
          refine take_at 1 62 rfl rfl (by kernel_rfl) (by kernel_rfl) (by kernel_rfl) (yieldsIf_load_mid (by rfl) 95 _ rfl (w.heap.size + 1 + 1) 0 rfl (iv .i64 (lsA A root)).toList _ (fun w' h => unhide RL w' h) Tryz.underlying95 rfl s7b) hHeld ?_
          simp only [Act.put, List.setIfInBounds_toArray, List.set_cons_zero, List.set_cons_succ]
          refine wpAnyH_ready (rs := [2]) (by kernel_rfl) (by simp) ?_
          refine AllReadyH.cons rfl (fun K hK => ?_) AllReadyH.nil
          refine (if_pos (by rfl)).mpr ?_
          refine wp_store_row 66 (.tmp 4) (.tmp 61) rfl (w.heap.size + 1) (iv .i64 (tabA A root)) rfl rfl _ _ hHeld.2.1 s147' rfl (iv_one _ _) ?_
          refine hK.out _ _ ⟨Keeps.setRow hHeld.1 (Or.inr (by omega)) _, setRow_heap _ _ _ _ _ _ hHeld.2.1, (setRow_other _ _ _ _ (by omega)).trans hHeld.2.2⟩ (fun hNew => ?_)
          clear hK K hHeld
          refine wpAnyH_ready (rs := [3]) (by kernel_rfl) (by simp) ?_
          refine AllReadyH.cons rfl (fun K hK => ?_) AllReadyH.nil
          refine (if_pos (by rfl)).mpr ?_
          refine wp_store_row 95 (.tmp 5) (.tmp 62) rfl (w.heap.size + 1 + 1) (iv .i64 (lsA A root)) rfl rfl _ _ hNew.2.2 s7 rfl (iv_one _ _) ?_
          refine hK.out _ _ ⟨Keeps.setRow hNew.1 (Or.inr (by omega)) _, (setRow_other _ _ _ _ (by omega)).trans hNew.2.1, setRow_heap _ _ _ _ _ _ hNew.2.2⟩ (fun hHeld => ?_)
          clear hK K hNew
          refine take_at 4 6 (v := ?_) rfl rfl (by kernel_rfl) (by kernel_rfl) (by kernel_rfl) (Or.inl ⟨by rfl, ?_⟩) hHeld ?_
          rotate_left
          · intro w hSw; go_simp; with_reducible rfl
          simp only [Act.put, List.setIfInBounds_toArray, List.set_cons_zero, List.set_cons_succ]
          refine wpAnyH_done (by kernel_rfl) ?_ _
          refine NoPanic.normal ?_
          have HH := hide hHeld
          clear hHeld
          go_wp2_with fail
          refine bodyPost_ret (v := .tuple #[.agg (iv .i64 (tabA A root)), .agg (iv .i64 (lsA A root)), .bool true]) (xresults_three Tryz.results102 _ _ (w.heap.size + 1) (w.heap.size + 1 + 1) 66 95 (iv .i64 (tabA A root)) (iv .i64 (lsA A root)) (0, 0) (0, 0) _ _ _ rfl rfl rfl (unhide HH).2.1 (unhide HH).2.2 Tryz.underlying66 rfl s147' Tryz.underlying95 rfl s7) rfl ?_
          exact ⟨by rw [(unhide HV).1, (unhide HV).2.1, (unhide HV).2.2], (unhide HH).1⟩

end Go.Proofs.YtiafhcgaikapcaaGreat


/-
  radix.Load: what it returns, for whatever memory, line and root; nothing that was there turns.
-/
namespace Go.Proofs.YtiafhcgaikapcaaGreat
open Go.ChangeShapes Go.WideShapes Go.ChangeAt Go.RowKit Go.Joins
set_option maxRecDepth 10000
set_option linter.unusedVariables false
set_option linter.unusedSimpArgs false

theorem rdT_len (A : Mm) (fr root : Int) : (rdT A fr root).length = 147 := by unfold rdT; split; exact tabA_len _ _; exact zrow_len 49
theorem rdL_len (A : Mm) (fr root : Int) : (rdL A fr root).length = 7 := by unfold rdL; split; exact lsA_len _ _; rfl
def LdPost (w : World) (t l : List Int) (er : Int) (e : Ending) (w' : World) : Prop := e = .returned (.tuple #[.agg (iv .i64 t), .agg (iv .i64 l), .int .i64 er]) ∧ Keeps (fun _ => False) w w'
set_option maxHeartbeats 8000000 in
theorem xload_any {w : World} {F : Nat → Prop} {b c : Nat} {A : Mm} {cs : Nat → Cel} (h : Rep w F b A c cs) (hn : A.n ≤ 1024) (hlk : ∀ i, (A.l i).ok) (fr root : Int) (hz : (Lit.int .i64 root).wf = true) :
    Calls Tryz.prog 46 #[.pointer (some ⟨b, 0, none⟩), .int .i64 fr, .int .i64 root] w (LdPost w (ldT A fr root) (ldL A fr root) (ldE A fr root)) := by
  obtain ⟨W1, hW1⟩ : ∃ W1, W1 = (w.alloc (.cells (iv .i64 (zrow 49)) 66)).alloc (.cells (iv .i64 zs7) 95) := ⟨_, rfl⟩
  have HK1 : Hid (Keeps (fun _ => False) w W1) := by rw [hW1]; exact ((Keeps.refl _ w).alloc _).alloc _
  have R1 := hide (h.keeps (unhide HK1) (fun _ _ => id))
  have C1 := hide (on_any (unhide R1))
  have G1 : Hid (W1.heap[w.heap.size]? = some (.cells (iv .i64 (zrow 49)) 66 (0, 0))) := by rw [hW1]; exact (heap2 w _ _).1
  have G2 : Hid (W1.heap[w.heap.size + 1]? = some (.cells (iv .i64 zs7) 95 (0, 0))) := by rw [hW1]; exact (heap2 w _ _).2
  have HSZ : Hid (W1.heap.size = w.heap.size + 1 + 1) := by show _ = _; rw [hW1]; simp
  have HW1 := hide hW1
  have s147z := s147_of (zrow 49) (zrow_len 49)
  have s7z := s7_of zs7 rfl
  have HFL := hide h.lt
  clear h hW1
  go_enter Tryz.func46, Tryz.ntmps46
  go_upto_region 1 with fail
  rw [zero147, zero7, ← unhide HW1]
  clear HW1
  go_wp2_with fail
  refine (unhide C1).mono ?_
  rintro e w1 ⟨rfl, rfl⟩
  clear C1
  cases hon : A.on with
  | false =>
    have HV : Hid (ldT A fr root = zrow 49 ∧ ldL A fr root = zs7 ∧ ldE A fr root = 4) := by show _ ∧ _; unfold ldT ldL ldE; rw [hon]; simp
    have HKR := HK1
    have KT := G1
    have KL := G2
    clear hon
    have KT1 := hide ((setRow_other w1 w.heap.size (w.heap.size + 1) (iv .i64 (zrow 49)) (by omega)).trans (unhide KL))
    have KT2 := hide ((setRow_other (w1.setRow w.heap.size (iv .i64 (zrow 49))) (w.heap.size + 1) w.heap.size (iv .i64 zs7) (by omega)).trans (setRow_heap _ _ _ (iv .i64 (zrow 49)) _ _ (unhide KT)))
    go_wp2_with (first | (refine wpList_build0 rfl 66 rfl _ build147 ?_) | (refine wpList_build0 rfl 95 rfl _ build7x ?_) | (with_reducible refine wpList_store_row (by with_unfolding_all rfl) 66 _ _ (by with_unfolding_all rfl) w.heap.size (iv .i64 (zrow 49)) (by with_unfolding_all rfl) (by with_unfolding_all rfl) _ _ (unhide KT) s147z rfl (iv_one _ _) ?_) | (with_reducible refine wpList_store_row (by with_unfolding_all rfl) 95 _ _ (by with_unfolding_all rfl) (w.heap.size + 1) (iv .i64 zs7) (by with_unfolding_all rfl) (by with_unfolding_all rfl) _ _ (unhide KT1) s7z rfl (iv_one _ _) ?_))
    refine bodyPost_ret (v := .tuple #[.agg (iv .i64 (zrow 49)), .agg (iv .i64 zs7), .int .i64 4]) (xresults_three Tryz.results46 _ _ w.heap.size (w.heap.size + 1) 66 95 (iv .i64 (zrow 49)) (iv .i64 zs7) (0, 0) (0, 0) _ _ _ rfl rfl rfl (unhide KT2) (setRow_heap _ _ _ _ _ _ (unhide KT1)) Tryz.underlying66 rfl s147z Tryz.underlying95 rfl s7z) rfl ?_
    exact ⟨by rw [(unhide HV).1, (unhide HV).2.1, (unhide HV).2.2], Keeps.setRow (Keeps.setRow (unhide HKR) (Or.inr (by omega)) _) (Or.inr (by omega)) _⟩
  | true =>
    have HT : Hid (ldT A fr root = rdT A fr root ∧ ldL A fr root = rdL A fr root ∧ ldE A fr root = if loadB A fr root then 0 else 21) := by show _ ∧ _; unfold ldT ldL ldE rdT rdL; rw [hon]; simp
    obtain ⟨W2, hW2⟩ : ∃ W2, W2 = (w1.alloc (.map #[] 0)).alloc (.cells #[.pointer (some ⟨b, 0, none⟩), .int .i64 fr, .map (some (w.heap.size + 1 + 1))] 185) := ⟨_, rfl⟩
    have hka : Keeps (fun _ => False) w1 W2 := by rw [hW2]; exact ((Keeps.refl _ _).alloc _).alloc _
    have R2 := hide ((unhide R1).keeps hka (fun _ _ => id))
    have HM : Hid (NamedM W2 (w.heap.size + 1 + 1) []) := by
      have h1 := named_new w1
      rw [unhide HSZ] at h1
      rw [hW2]
      exact h1.keeps (F := fun _ => False) ((Keeps.refl _ _).alloc _) id
    have GD : Hid (W2.heap[w.heap.size + 1 + 1 + 1]? = some (.cells #[.pointer (some ⟨b, 0, none⟩), .int .i64 fr, .map (some (w.heap.size + 1 + 1))] 185 (0, 0))) := by
      have := heap_new (w1.alloc (.map #[] 0)) (.cells #[.pointer (some ⟨b, 0, none⟩), .int .i64 fr, .map (some (w.heap.size + 1 + 1))] 185)
      rw [hW2]
      rw [show (w1.alloc (.map #[] 0)).heap.size = w.heap.size + 1 + 1 + 1 by simp [unhide HSZ]] at this
      exact this
    have hs1 := unhide HSZ
    have K1 := hide ((hka.block _ (by omega) id).trans (unhide G1))
    have K2 := hide ((hka.block _ (by omega) id).trans (unhide G2))
    have HK2 := hide ((unhide HK1).trans' hka)
    have HS2 : Hid (W2.heap.size = w.heap.size + 1 + 1 + 1 + 1) := by show _ = _; rw [hW2]; simp [unhide HSZ]
    have HW2 := hide hW2
    have C2 := hide (dread_any (unhide R2) hon hn hlk (w.heap.size + 1 + 1) (fun hf => by have := unhide HFL _ hf; omega) (unhide HM) fr root hz)
    have hmm := @run_makeMap Tryz.prog
    clear hW2 hka hon R1 G1 G2 HK1
    go_upto_region 4 with fail
    rw [← unhide HW2]
    clear HW2 hmm
    have d0 : W2.cell? ⟨w.heap.size + 1 + 1 + 1, 0, none⟩ = some (.pointer (some ⟨b, 0, none⟩)) := by rw [cell_of_block (unhide GD)]; rfl
    have d1 : W2.cell? ⟨w.heap.size + 1 + 1 + 1, 1, none⟩ = some (.int .i64 fr) := by rw [cell_of_block (unhide GD)]; rfl
    have d2 : W2.cell? ⟨w.heap.size + 1 + 1 + 1, 2, none⟩ = some (.map (some (w.heap.size + 1 + 1))) := by rw [cell_of_block (unhide GD)]; rfl
    go_wp2_with fail
    refine (unhide C2).mono ?_
    rintro e w3 ⟨rfl, hk3⟩
    have hs2 := unhide HS2
    have hs3 := hk3.size
    have KA := hide ((hk3.block _ (by omega) (by omega)).trans (unhide K1))
    have KB := hide ((hk3.block _ (by omega) (by omega)).trans (unhide K2))
    have HK3 : Hid (Keeps (fun _ => False) w w3) := ⟨hk3.os.trans (unhide HK2).os, hk3.tape.trans (unhide HK2).tape, hk3.output.trans (unhide HK2).output, by omega, fun k hk _ => (hk3.block k (by omega) (by omega)).trans ((unhide HK2).block k hk id)⟩
    clear hk3 C2 R2 HM GD K1 K2 HK2 d0 d1 d2
    have eT : (iv .i64 (zrow 49)).size = (iv .i64 (rdT A fr root)).size := by rw [iv_size, iv_size, rdT_len, zrow_len]
    have eL : (iv .i64 zs7).size = (iv .i64 (rdL A fr root)).size := by rw [iv_size, iv_size, rdL_len]; rfl
    have sT := s147_of (rdT A fr root) (rdT_len _ _ _)
    have sL := s7_of (rdL A fr root) (rdL_len _ _ _)
    have KB1 := hide ((setRow_other w3 w.heap.size (w.heap.size + 1) (iv .i64 (rdT A fr root)) (by omega)).trans (unhide KB))
    have KT := hide ((setRow_other (w3.setRow w.heap.size (iv .i64 (rdT A fr root))) (w.heap.size + 1) w.heap.size (iv .i64 (rdL A fr root)) (by omega)).trans (setRow_heap _ _ _ (iv .i64 (rdT A fr root)) _ _ (unhide KA)))
    have KL := hide (setRow_heap (w3.setRow w.heap.size (iv .i64 (rdT A fr root))) (w.heap.size + 1) _ (iv .i64 (rdL A fr root)) _ _ (unhide KB1))
    have HKR : Hid (Keeps (fun _ => False) w ((w3.setRow w.heap.size (iv .i64 (rdT A fr root))).setRow (w.heap.size + 1) (iv .i64 (rdL A fr root)))) := Keeps.setRow (Keeps.setRow (unhide HK3) (Or.inr (by omega)) _) (Or.inr (by omega)) _
    go_upto_region 5 with (first | (with_reducible refine wpList_store_row (by with_unfolding_all rfl) 66 _ _ (by with_unfolding_all rfl) w.heap.size (iv .i64 (rdT A fr root)) (by with_unfolding_all rfl) (by with_unfolding_all rfl) _ _ (unhide KA) sT eT (iv_one _ _) ?_) | (with_reducible refine wpList_store_row (by with_unfolding_all rfl) 95 _ _ (by with_unfolding_all rfl) (w.heap.size + 1) (iv .i64 (rdL A fr root)) (by with_unfolding_all rfl) (by with_unfolding_all rfl) _ _ (unhide KB1) sL eL (iv_one _ _) ?_))
    clear KA KB KB1 HK3
    generalize (w3.setRow w.heap.size (iv .i64 (rdT A fr root))).setRow (w.heap.size + 1) (iv .i64 (rdL A fr root)) = w4 at *
    have ZT1 : Hid ((iv .i64 (rdT A fr root)).size = (iv .i64 (zrow 49)).size) := eT.symm
    have ZL1 : Hid ((iv .i64 (rdL A fr root)).size = (iv .i64 zs7).size) := eL.symm
    cases hb : loadB A fr root with
    | false =>
      have HV : Hid (ldT A fr root = zrow 49 ∧ ldL A fr root = zs7 ∧ ldE A fr root = 21) := by
        obtain ⟨a1, a2, a3⟩ := unhide HT
        show _ ∧ _
        rw [a1, a2, a3, hb]; unfold rdT rdL; rw [hb]; simp
      clear hb HT
      have KT1 := hide ((setRow_other w4 w.heap.size (w.heap.size + 1) (iv .i64 (zrow 49)) (by omega)).trans (unhide KL))
      have KT2 := hide ((setRow_other (w4.setRow w.heap.size (iv .i64 (zrow 49))) (w.heap.size + 1) w.heap.size (iv .i64 zs7) (by omega)).trans (setRow_heap _ _ _ (iv .i64 (zrow 49)) _ _ (unhide KT)))
      go_wp2_with (first | (refine wpList_build0 rfl 66 rfl _ build147 ?_) | (refine wpList_build0 rfl 95 rfl _ build7x ?_) | (with_reducible refine wpList_store_row (by with_unfolding_all rfl) 66 _ _ (by with_unfolding_all rfl) w.heap.size (iv .i64 (zrow 49)) (by with_unfolding_all rfl) (by with_unfolding_all rfl) _ _ (unhide KT) s147z (unhide ZT1) (iv_one _ _) ?_) | (with_reducible refine wpList_store_row (by with_unfolding_all rfl) 95 _ _ (by with_unfolding_all rfl) (w.heap.size + 1) (iv .i64 zs7) (by with_unfolding_all rfl) (by with_unfolding_all rfl) _ _ (unhide KT1) s7z (unhide ZL1) (iv_one _ _) ?_))
      refine bodyPost_ret (v := .tuple #[.agg (iv .i64 (zrow 49)), .agg (iv .i64 zs7), .int .i64 21]) (xresults_three Tryz.results46 _ _ w.heap.size (w.heap.size + 1) 66 95 (iv .i64 (zrow 49)) (iv .i64 zs7) (0, 0) (0, 0) _ _ _ rfl rfl rfl (unhide KT2) (setRow_heap _ _ _ _ _ _ (unhide KT1)) Tryz.underlying66 rfl s147z Tryz.underlying95 rfl s7z) rfl ?_
      exact ⟨by rw [(unhide HV).1, (unhide HV).2.1, (unhide HV).2.2], Keeps.setRow (Keeps.setRow (unhide HKR) (Or.inr (by omega)) _) (Or.inr (by omega)) _⟩
    | true =>
      have HV : Hid (ldT A fr root = rdT A fr root ∧ ldL A fr root = rdL A fr root ∧ ldE A fr root = 0) := by
        obtain ⟨a1, a2, a3⟩ := unhide HT
        show _ ∧ _
        rw [a1, a2, a3, hb]; simp
      clear hb HT
      generalize rdT A fr root = TT at *
      generalize rdL A fr root = LL at *
      have s147 : (Tryz.prog.info? 66).map (·.size) = some (iv .i64 TT).toList.length := by rw [Array.length_toList]; exact sT
      have s7b : (Tryz.prog.info? 95).map (·.size) = some (iv .i64 LL).toList.length := by rw [Array.length_toList]; exact sL
      have RT : Hid (∀ w' : World, (Keeps (fun _ => False) w w' ∧ w'.heap[w.heap.size]? = some (.cells (iv .i64 TT) 66 (0, 0)) ∧ w'.heap[w.heap.size + 1]? = some (.cells (iv .i64 LL) 95 (0, 0))) → w'.rangeAt w.heap.size 0 (iv .i64 TT).toList) := fun w' hS m u hu => by
        rw [cell_of_block hS.2.1, Nat.zero_add, ← Array.getElem?_toList]; exact hu
      have RL : Hid (∀ w' : World, (Keeps (fun _ => False) w w' ∧ w'.heap[w.heap.size]? = some (.cells (iv .i64 TT) 66 (0, 0)) ∧ w'.heap[w.heap.size + 1]? = some (.cells (iv .i64 LL) 95 (0, 0))) → w'.rangeAt (w.heap.size + 1) 0 (iv .i64 LL).toList) := fun w' hS m u hu => by
        rw [cell_of_block hS.2.2, Nat.zero_add, ← Array.getElem?_toList]; exact hu
      go_wp2_with fail
      refine wp_region_noPanic ?_
      refine wp_region_held_drew (S := fun w' => Keeps (fun _ => False) w w' ∧ w'.heap[w.heap.size]? = some (.cells (iv .i64 TT) 66 (0, 0)) ∧ w'.heap[w.heap.size + 1]? = some (.cells (iv .i64 LL) 95 (0, 0))) (by kernel_rfl) ⟨(unhide HKR).drew, unhide KT, unhide KL⟩ (fun hHeld => ?_)
      clear HKR KT KL
      refine take_at 0 31 rfl rfl (by kernel_rfl) (by kernel_rfl) (by kernel_rfl) (yieldsIf_load_mid (by rfl) 66 _ rfl w.heap.size 0 rfl (iv .i64 TT).toList _ (fun w' h => unhide RT w' h) Tryz.underlying66 rfl s147) hHeld ?_
      simp only [Act.put, List.setIfInBounds_toArray, List.set_cons_zero, List.set_cons_succ]
      refine take_at 1 32 rfl rfl (by kernel_rfl) (by kernel_rfl) (by kernel_rfl) (yieldsIf_load_mid (by rfl) 95 _ rfl (w.heap.size + 1) 0 rfl (iv .i64 LL).toList _ (fun w' h => unhide RL w' h) Tryz.underlying95 rfl s7b) hHeld ?_
      simp only [Act.put, List.setIfInBounds_toArray, List.set_cons_zero, List.set_cons_succ]
      refine wpAnyH_ready (rs := [2]) (by kernel_rfl) (by simp) ?_
      refine AllReadyH.cons rfl (fun K hK => ?_) AllReadyH.nil
      refine (if_pos (by rfl)).mpr ?_
      refine wp_store_row 66 (.tmp 6) (.tmp 31) rfl w.heap.size (iv .i64 TT) rfl rfl _ _ hHeld.2.1 sT rfl (iv_one _ _) ?_
      refine hK.out _ _ ⟨Keeps.setRow hHeld.1 (Or.inr (by omega)) _, setRow_heap _ _ _ _ _ _ hHeld.2.1, (setRow_other _ _ _ _ (by omega)).trans hHeld.2.2⟩ (fun hNew => ?_)
      clear hK K hHeld
      refine wpAnyH_ready (rs := [3]) (by kernel_rfl) (by simp) ?_
      refine AllReadyH.cons rfl (fun K hK => ?_) AllReadyH.nil
      refine (if_pos (by rfl)).mpr ?_
      refine wp_store_row 95 (.tmp 7) (.tmp 32) rfl (w.heap.size + 1) (iv .i64 LL) rfl rfl _ _ hNew.2.2 sL rfl (iv_one _ _) ?_
      refine hK.out _ _ ⟨Keeps.setRow hNew.1 (Or.inr (by omega)) _, (setRow_other _ _ _ _ (by omega)).trans hNew.2.1, setRow_heap _ _ _ _ _ _ hNew.2.2⟩ (fun hHeld => ?_)
      clear hK K hNew
      refine take_at 4 8 (v := ?_) rfl rfl (by kernel_rfl) (by kernel_rfl) (by kernel_rfl) (Or.inl ⟨by rfl, ?_⟩) hHeld ?_
      rotate_left
      · intro w hSw; go_simp; with_reducible rfl
      simp only [Act.put, List.setIfInBounds_toArray, List.set_cons_zero, List.set_cons_succ]
      refine wpAnyH_done (by kernel_rfl) ?_ _
      refine NoPanic.normal ?_
      have HH := hide hHeld
      clear hHeld
      go_wp2_with fail
      refine bodyPost_ret (v := .tuple #[.agg (iv .i64 TT), .agg (iv .i64 LL), .int .i64 0]) (xresults_three Tryz.results46 _ _ w.heap.size (w.heap.size + 1) 66 95 (iv .i64 TT) (iv .i64 LL) (0, 0) (0, 0) _ _ _ rfl rfl rfl (unhide HH).2.1 (unhide HH).2.2 Tryz.underlying66 rfl sT Tryz.underlying95 rfl sL) rfl ?_
      exact ⟨by rw [(unhide HV).1, (unhide HV).2.1, (unhide HV).2.2], (unhide HH).1⟩

end Go.Proofs.YtiafhcgaikapcaaGreat
