
/-
  radix's directory: the lines that it has named, in a map; what name, and a memory's Load, return; only the map turns.
-/
import Derived.Test.YtnjicfnigfkppabXReadLeaf
import Derived.Test.YtnjicfnigfkppabNTotal
import Derived.Maps.OwnOps
import Derived.Maps.OwnSet
import Derived.Maps.Views
import Derived.Carry
import Derived.Deep.Cut
namespace Go.Proofs.Ytnjicfnigfkppab
open Go.ChangeShapes Go.WideShapes Go.ChangeAt Go.RowKit Go.Joins
set_option maxRecDepth 10000
set_option linter.unusedVariables false
set_option linter.unusedSimpArgs false

/-! ### the lines that are named -/
def nmB (n : Nat) (fr : Int) (ns : List Int) (z : Int) : Bool := decide (0 ≤ z ∧ fr ≤ z ∧ z < n ∧ z ∉ ns)
/-- The map at M says: these lines, each once. -/
def NamedM (w : World) (M : Nat) (ns : List Int) : Prop :=
  ∃ (n : Nat) (D : DataW Unit), w.ownsMap Try.prog 3 (plainElem Try.prog 3) M n D ∧ n ≤ ns.length ∧ ∀ z, (Lit.int .i64 z).wf = true → D.atKey (.int .i64 z) (.lit (.int .i64 0)) = .lit (.int .i64 (if z ∈ ns then 1 else 0))
theorem named_new (w : World) : NamedM (w.alloc (.map #[] 0)) w.heap.size [] :=
  ⟨0, .map [], World.ownsMap_made w Try.prog 3 _, Nat.le_refl _, fun z _ => by
    rw [if_neg (by simp)]; exact WideAt.atKey_none _ (by simp)⟩
theorem NamedM.keeps {w w' : World} {M : Nat} {ns : List Int} {F : Nat → Prop} (h : NamedM w M ns) (hk : Keeps F w w') (hF : ¬ F M) : NamedM w' M ns := by
  obtain ⟨n, D, h1, h2, h3⟩ := h
  have hlt := h1.lt
  obtain ⟨es, cl, hb, F', hs, hD⟩ := h1
  exact ⟨n, D, ⟨es, cl, (hk.block M hlt hF).trans hb, F', hs, hD⟩, h2, h3⟩
theorem NamedM.lt {w : World} {M : Nat} {ns : List Int} (h : NamedM w M ns) : M < w.heap.size := by
  obtain ⟨n, D, h1, -⟩ := h; exact h1.lt
theorem key_int {z : Int} (hw : (Lit.int .i64 z).wf = true) : keyOf Try.prog 3 (.int .i64 z) = some (.int .i64 z) := Maps.keyOf_int_mk Try.underlying3 hw
theorem keyed_int : Maps.Keyed Try.prog 3 := Maps.int_keyed Try.underlying3
theorem zero_int (w : World) : (zeroValue 3).run Try.prog w = .ok (.int .i64 0) w := by
  obtain ⟨i0, hi, hz0, hz1, hz2⟩ := info_parts (show (Try.prog.info? 3).map (fun i => (i.zero, i.size, i.bytes)) = some (some (.int .i64 0), 1, 8) by kernel_rfl)
  simp [zeroValue, typeInfo, hi, hz0]

theorem cell_grownX {w w2 : World} {M g i : Nat} {v : Value} (hg : w.grownBy w2 (some M)) (hc : w.cell? ⟨g, i, none⟩ = some v) (hne : g ≠ M) : w2.cell? ⟨g, i, none⟩ = some v := by
  rw [World.cell?_of_block (w := w) (hg.block g (World.block_lt_of_cell? w _ hc) (fun e => hne (by simpa using e)))]; exact hc
theorem look_again {w2 : World} {M n : Nat} {D : DataW Unit} {z q : Int} (o2 : w2.ownsMap Try.prog 3 (plainElem Try.prog 3) M n (D.put (.int .i64 z) (.lit (.int .i64 q)))) (IM : Maps.IsMap D) (hz : (Lit.int .i64 z).wf = true) :
    Sem.run Try.prog (Instr.lookup 61 (.map (some M)) (.int .i64 z) false) w2 = .ok (.int .i64 q) w2 := by
  obtain ⟨c, hrun, hat, -⟩ := o2.lookup_int keyed_int Try.underlying61 Try.underlying3 (zero_int _) (key_int hz)
  rw [Maps.atKey_put_same (k := Lit.int .i64 z) IM trivial] at hat
  have : c = q := by simpa using hat.symm
  rw [← this]; exact hrun
theorem named_next {w2 : World} {M n : Nat} {D : DataW Unit} {z : Int} {ns : List Int} (o2 : w2.ownsMap Try.prog 3 (plainElem Try.prog 3) M (n + 1) (D.put (.int .i64 z) (.lit (.int .i64 1)))) (IM : Maps.IsMap D) (hz : (Lit.int .i64 z).wf = true) (hn : n ≤ ns.length)
    (h3 : ∀ z, (Lit.int .i64 z).wf = true → D.atKey (.int .i64 z) (.lit (.int .i64 0)) = .lit (.int .i64 (if z ∈ ns then 1 else 0))) : NamedM w2 M (ns ++ [z]) :=
  ⟨n + 1, _, o2, by simpa using hn, fun y hy => by
    by_cases e : y = z
    · subst e; rw [Maps.atKey_put_same (k := Lit.int .i64 y) IM trivial, if_pos (by simp)]
    · rw [Maps.atKey_put_other (by simpa using e), h3 y hy]
      by_cases hm : y ∈ ns
      · rw [if_pos hm, if_pos (by simp [hm])]
      · rw [if_neg hm, if_neg (by simp [hm, e])]⟩

/-! ### name -/
def NmPost (w : World) (M : Nat) (ns : List Int) (z : Int) (ok : Bool) (e : Ending) (w' : World) : Prop := e = .returned (.bool ok) ∧ Keeps (· = M) w w' ∧ (ok = true → NamedM w' M (ns ++ [z]))
set_option maxHeartbeats 4000000 in
theorem name_any {w : World} {F : Nat → Prop} {b c : Nat} {A : Mm} {cs : Nat → Cel} (h : Rep w F b A c cs) (M : Nat) (ns : List Int) (hM : NamedM w M ns) (fr z : Int) (hz : (Lit.int .i64 z).wf = true) (hlen : ns.length < 1000) :
    Calls Try.prog 28 #[.agg #[.pointer (some ⟨b, 0, none⟩), .int .i64 fr, .map (some M)], .int .i64 z] w (NmPost w M ns z (nmB A.n fr ns z)) := by
  have HB := hide (fun o : Obj => (Keeps.refl (· = M) w).alloc o)
  have CL := hide (fun o : Obj => lines_any (h.alloc o))
  by_cases h0 : z < 0
  · rw [show nmB A.n fr ns z = false by unfold nmB; rw [decide_eq_false_iff_not]; omega]
    clear h hM
    go_enter Try.func28, Try.ntmps28
    go_wp2_with fail
    go_ret
    exact ⟨rfl, unhide HB _, by simp⟩
  · by_cases h1 : z < fr
    · rw [show nmB A.n fr ns z = false by unfold nmB; rw [decide_eq_false_iff_not]; omega]
      clear h hM
      go_enter Try.func28, Try.ntmps28
      go_wp2_with fail
      go_ret
      exact ⟨rfl, unhide HB _, by simp⟩
    · by_cases h2 : (A.n : Int) ≤ z
      · rw [show nmB A.n fr ns z = false by unfold nmB; rw [decide_eq_false_iff_not]; omega]
        clear h hM
        go_enter Try.func28, Try.ntmps28
        go_wp2_with fail
        refine (unhide CL _).mono ?_
        rintro e w1 ⟨rfl, rfl⟩
        go_wp2_with fail
        go_ret
        exact ⟨rfl, unhide HB _, by simp⟩
      · obtain ⟨n, D, m1, m2, m3⟩ := hM
        have hq : ∃ q : Int, q = (if z ∈ ns then 1 else 0) ∧ (q = 0 ∨ q = 1) := ⟨_, rfl, by split <;> simp⟩
        obtain ⟨q, hq, hq01⟩ := hq
        have hB : nmB A.n fr ns z = (q + 1 == 1) := by
          unfold nmB
          rw [Bool.eq_iff_iff, decide_eq_true_iff, beq_iff_eq]
          by_cases hm : z ∈ ns
          · rw [if_pos hm] at hq; constructor
            · rintro ⟨-, -, -, h⟩; exact absurd hm h
            · intro h; omega
          · rw [if_neg hm] at hq; constructor
            · intro _; omega
            · intro _; exact ⟨by omega, by omega, by omega, hm⟩
        rw [hB]
        have hK := key_int hz
        have m1a := hide (m1.alloc (.cells #[.pointer (some ⟨b, 0, none⟩), .int .i64 fr, .map (some M)] 63))
        obtain ⟨c1, hrun, hat, hwc⟩ := (unhide m1a).lookup_int keyed_int Try.underlying61 Try.underlying3 (zero_int _) hK
        have hc1 : c1 = q := by
          rw [m3 z hz, ← hq] at hat
          simpa using hat.symm
        subst hc1
        have HM3 := hide m3
        have HM2 := hide m2
        have HQ := hide hq
        have IM := hide (unhide m1a).isMap
        have hw1 : (Lit.int .i64 (c1 + 1)).wf = true := by rcases hq01 with h | h <;> (subst h; decide)
        have hc2 : (c1 : Int) ≤ 1 ∧ 0 ≤ c1 := by omega
        obtain ⟨c2a, c2b⟩ := hc2
        have hval : plainElem (H := Unit) Try.prog 3 (.int .i64 (c1 + 1)) = some (.lit (.int .i64 (c1 + 1)), []) := plainElem_int Try.underlying3 hw1
        have HVAL := hide hval
        have HK2 := hide hK
        have hn : n < maxLen := by unfold maxLen; omega
        have HN := hide hn
        have HW1 := hide hw1
        have hML := m1.lt
        clear h m1 m2 m3 hq hq01 hB hat hwc hval hK hn hw1
        go_enter Try.func28, Try.ntmps28
        go_wp2_with fail
        refine (unhide CL _).mono ?_
        rintro e w1 ⟨rfl, rfl⟩
        have cM : (w.alloc (.cells #[.pointer (some ⟨b, 0, none⟩), .int .i64 fr, .map (some M)] 63)).cell? ⟨w.heap.size, 2, none⟩ = some (.map (some M)) := by rw [cell_of_block (heap_new w _)]; rfl
        go_wp2_with (at_mapUpdate; refine wpList_mapUpdate_own _ rfl _ _ _ 61 rfl 3 3 keyed_int Try.underlying61 _ M n D rfl (unhide m1a) (unhide HN) (.int .i64 z) (.int .i64 (c1 + 1)) (.int .i64 z) rfl rfl (unhide HK2) (.lit (.int .i64 (c1 + 1))) [] (unhide HVAL) ?_; intro w2 o2 g2; have hr2 := look_again o2 (unhide IM) hz; have cM2 := cell_grownX g2 cM (by omega); have O2 := hide o2; have G2 := hide g2; clear o2 g2)
        go_ret
        refine ⟨rfl, (unhide HB _).grown (unhide G2) (fun k e => Or.inl (by simpa using e.symm)), fun hB => ?_⟩
        have e0 : c1 = 0 := by have := beq_iff_eq.1 hB; omega
        have o2 := unhide O2
        rw [e0, Int.zero_add] at o2
        exact named_next o2 (unhide IM) hz (unhide HM2) (unhide HM3)

/-! ### a memory's Load: nothing that was there turns -/
theorem load_calm {w : World} {F : Nat → Prop} {b c : Nat} {A : Mm} {cs : Nat → Cel} (h : Rep w F b A c cs) (z : Int) (k : Nat) (ez : z = (k : Int)) (hk : k < A.n) (hon : A.on = true) (hn : A.n ≤ 1024) :
    Calls Try.prog 29 #[.pointer (some ⟨b, 0, none⟩), .int .i64 z] w fun e w' => e = .returned (.tuple #[.agg (lnV (A.l k).has), .int .i64 0]) ∧ Keeps (fun _ => False) w w' := by
  subst ez
  have D1 : decide ((0 : Int) ≤ (k : Int) ∧ (k : Int) < (A.n : Int)) = true := by simp; omega
  have hk' : (k : Int) < (A.n : Int) := by omega
  have HON := hide hon
  clear hon
  have hz : (#[.int .u64 0, .int .u64 0, .int .u64 0, .int .u64 0, .int .u64 0, .int .u64 0, .int .u64 0, .int .u64 0] : Array Value) = lnV fun _ => 0 := rfl
  have H1 := hide (h.alloc (.cells (lnV fun _ => 0) 32))
  have HK : Hid (Keeps (fun _ => False) w (w.alloc (.cells (lnV fun _ => 0) 32))) := (Keeps.refl _ _).alloc _
  have HB := hide (heap_new w (.cells (lnV fun _ => 0) 32))
  have HZ := hide hz
  clear h hz
  go_enter Try.func29, Try.ntmps29
  go_wp2_with fail
  rw [unhide HZ]
  obtain ⟨B, hB⟩ : ∃ B, B = w.heap.size := ⟨_, rfl⟩
  rw [← hB] at HB
  rw [← hB]
  have HBB := hide hB
  clear hB
  generalize w.alloc (.cells (lnV fun _ => 0) 32) = W at *
  refine (isLine_any (unhide H1) _).mono ?_
  rintro e w1 ⟨rfl, rfl⟩
  obtain ⟨K0, c0⟩ := (unhide H1).c0
  have c1 := (unhide H1).c1
  rw [unhide HON] at c1
  have HR := hide ((unhide H1).hasR k hk)
  have s8 : (Try.prog.info? 32).map (·.size) = some ((List.range 8).map fun j => Value.int .u64 ((A.l k).has j)).length := by rw [List.length_map, List.length_range]; exact lsize
  have s8' : (Try.prog.info? 32).map (·.size) = some (lnV (A.l k).has).size := by rw [lnV_size]; exact lsize
  rw [D1]
  go_wp2_with (first | (refine wpList_load_mid rfl 32 _ rfl c (k * 25 + 8) rfl _ _ (unhide HR) Try.underlying32 rfl s8 ?_) | (refine wpList_store_row rfl 32 _ _ rfl B (lnV (A.l k).has) rfl rfl _ _ (unhide HB) s8' (by rw [lnV_size, lnV_size]) (lnV_one _) ?_))
  refine bodyPost_ret (v := .tuple #[.agg (lnV (A.l k).has), .int .i64 0]) (results_line Try.results29 _ _ B 32 (lnV (A.l k).has) (0, 0) _ _ rfl rfl (setRow_heap _ _ _ _ _ _ (unhide HB)) Try.underlying32 rfl s8') rfl ?_
  exact ⟨rfl, Keeps.setRow (unhide HK) (Or.inr (by rw [unhide HBB]; exact Nat.le_refl _)) _⟩

/-- The words of a line, as a row. -/
def lineA (A : Mm) (k : Nat) : List Int := (List.range 8).map (A.l k).has
theorem lineA_len (A : Mm) (k : Nat) : (lineA A k).length = 8 := by simp [lineA]
theorem lineA_iv (A : Mm) (k : Nat) : lnV (A.l k).has = iv .u64 (lineA A k) := tab_iv .u64 8 _
theorem lineA_wf (A : Mm) (k : Nat) (h : (A.l k).ok) : ∀ z ∈ lineA A k, (Lit.int .u64 z).wf = true := fun z hz => by
  unfold lineA at hz
  rw [List.mem_map] at hz
  obtain ⟨j, -, rfl⟩ := hz
  have : InU ((A.l k).has j) := runS_inU _ _ h.1 h.2.1 j
  exact wf_u64 this.1 this.2

end Go.Proofs.Ytnjicfnigfkppab
