
/-
  What revive's small calls do: From, lines, mayBe; a memory in whatever company, with all that an image asks of it.
-/
import Derived.Test.YtiafhcgaikapcaaGreatIFmt
import Derived.Test.YtiafhcgaikapcaaGreatPkTel
import Derived.Test.YtiafhcgaikapcaaGreatPkMem
import Derived.Test.YtiafhcgaikapcaaGreatPkDir
import Derived.Test.YtiafhcgaikapcaaGreatEqS
namespace Go.Proofs.YtiafhcgaikapcaaGreat
open Go.ChangeShapes Go.WideShapes Go.ChangeAt Go.RowKit Go.Joins
set_option maxRecDepth 10000
set_option linter.unusedVariables false
set_option linter.unusedSimpArgs false

/-! ### a state beside things in blocks of their own -/
def QSt (W : World) (St : World → (Nat → Prop) → Prop) (R : World → (Nat → Prop) → Prop) (w : World) (G : Nat → Prop) : Prop :=
  ∃ C : Nat → Prop, St w (fun k => G k ∨ C k) ∧ R w C ∧ (∀ k, G k → ¬ C k) ∧ (∀ k, C k → W.heap.size ≤ k)
theorem QSt.stay {W : World} {St : World → (Nat → Prop) → Prop} {R : World → (Nat → Prop) → Prop} (S : Stay W St) (hR : Loc R) : Stay W (QSt W St R) where
  al := fun w G o ⟨C, h1, h2, h3, h4⟩ => ⟨C, S.ls _ _ _ (S.al _ _ o h1) (fun k hk => by
      rcases hk with (hk | hk) | hk
      · exact Or.inl (Or.inl hk)
      · exact Or.inr hk
      · exact Or.inl (Or.inr hk)), hR _ _ _ h2 (fun k hk => Below.heap_alloc w o k (S.lt _ _ h1 k (Or.inr hk))), (fun k hk hc => by
      rcases hk with hk | hk
      · exact h3 k hk hc
      · have := S.lt _ _ h1 k (Or.inr hc); omega), h4⟩
  ls := fun w G G' ⟨C, h1, h2, h3, h4⟩ hs => ⟨C, S.ls _ _ _ h1 (fun k hk => hk.imp (hs k) id), h2, fun k hk => h3 k (hs k hk), h4⟩
  bl := fun w w' G ⟨C, h1, h2, h3, h4⟩ hk => ⟨C, S.bl _ _ _ h1 hk, hR _ _ _ h2 (fun k hc => hk.block k (S.lt _ _ h1 k (Or.inr hc)) id), h3, h4⟩
  ow := fun w w' G L ⟨C, h1, h2, h3, h4⟩ hL hW hk => ⟨C, S.ow _ _ _ L h1 (Or.inl hL) hW hk, hR _ _ _ h2 (fun k hc => hk.block k (S.lt _ _ h1 k (Or.inr hc)) (fun e => h3 L hL (e ▸ hc))), h3, h4⟩
  lt := fun w G ⟨C, h1, _, _, _⟩ k hk => S.lt _ _ h1 k (Or.inl hk)
  sz := fun w G ⟨C, h1, _, _, _⟩ => S.sz _ _ h1
theorem QSt.via {W w : World} {St St' : World → (Nat → Prop) → Prop} {R : World → (Nat → Prop) → Prop} (hR : Loc R) {G : Nat → Prop} {f : FuncId} {args : Array Value} {v : Value} (h : QSt W St R w G)
    (hc : ∀ G, St w G → Calls Tryz.prog f args w (Done St' w G v)) : Calls Tryz.prog f args w (Done (QSt W St' R) w G v) := by
  obtain ⟨C, h1, h2, h3, h4⟩ := h
  exact (hc _ h1).mono fun e w' ⟨he, hh, hs⟩ => ⟨he, ⟨C, hh, hR _ _ _ h2 (fun k hk => hs k (Or.inr hk)), h3, h4⟩, fun k hk => hs k (Or.inl hk)⟩
theorem QSt.drop {W w : World} {St : World → (Nat → Prop) → Prop} {R : World → (Nat → Prop) → Prop} (S : Stay W St) {G : Nat → Prop} (h : QSt W St R w G) : St w G := by
  obtain ⟨C, h1, _⟩ := h
  exact S.ls _ _ _ h1 fun k hk => Or.inl hk
/-- Behind a Scan: the records lie behind a slice, in blocks of their own. -/
def ScanI (W w : World) (St : World → (Nat → Prop) → Prop) (G : Nat → Prop) (rs : List Rc) (E : Int) (e : Ending) (w' : World) : Prop :=
  ∃ v, e = .returned (.tuple #[v, .int .i64 E]) ∧ QSt W St (RecSt W.heap.size v rs) w' G ∧ Same G w w'

/-- A memory in the block m, in whatever company: what each call that an image needs leaves. -/
structure MemI (W : World) (m : Nat) (St : Mm → World → (Nat → Prop) → Prop) : Prop extends MemL W m St where
  flush : ∀ w G A, St A w G → A.ok 1000 → ∀ y z, Calls Tryz.prog 125 #[.pointer (some ⟨m, 0, none⟩), .int .i64 y, .int .i64 z] w (Done (St (A.flushZ y z)) w G (.int .i64 (A.flushE y z)))
  fence : ∀ w G A, St A w G → A.ok 1000 → ∀ y, Calls Tryz.prog 126 #[.pointer (some ⟨m, 0, none⟩), .int .i64 y] w (Done (St (A.fenceZ y)) w G (.int .i64 (A.fenceE y)))
  write : ∀ w G A, St A w G → A.ok 900 → ∀ core slot s, s.length = 4 → Calls Tryz.prog 110 #[.pointer (some ⟨m, 0, none⟩), .int .i64 core, .int .i64 slot, .agg (iv .i64 s)] w (Done (St (A.writeZ core slot s)) w G (.int .i64 (A.writeE core slot s)))
  find : ∀ w G A, St A w G → A.ok 1000 → Calls Tryz.prog 45 #[.pointer (some ⟨m, 0, none⟩)] w (Done (St A) w G (.tuple #[.agg (iv .i64 A.findV), .int .i64 A.findAt, .int .i64 A.findE]))
  dir : ∀ w G A, St A w G → A.ok 1000 → ∀ fr root, (Lit.int .i64 root).wf = true → Calls Tryz.prog 46 #[.pointer (some ⟨m, 0, none⟩), .int .i64 fr, .int .i64 root] w (LdPost w (ldT A fr root) (ldL A fr root) (ldE A fr root))
  scan : ∀ w G A, St A w G → A.ok 1000 → ∀ z, Calls Tryz.prog 168 #[.pointer (some ⟨m, 0, none⟩), .int .i64 z] w (ScanI W w (St A) G (A.scanV z) (A.scanE z))
theorem Has.memI (W : World) (m : Nat) : MemI W m (fun A w G => Has W w G m A) where
  toMemL := Has.memL W m
  flush := fun w G A h hok y z => (h.flushZ hok y z).mono fun e w' ha => ha
  fence := fun w G A h hok y => (h.fenceZ hok y).mono fun e w' ha => ha
  write := fun w G A h hok core slot s hs => (h.write hok core slot s hs).mono fun e w' ha => ha
  find := fun w G A h hok => (h.find hok).mono fun e w' ha => ha
  dir := fun w G A h hok fr root hz => by
    obtain ⟨F, c, cs, h1, _⟩ := h
    exact xload_any h1 hok.2.1 hok.2.2.1 fr root hz
  scan := fun w G A h hok z => (h.scanR hok z).mono fun e w' ha => ha

/-! ### objects behind a slice -/
def obC (x : Ob) : List Value := (obV x.k x.v x.l).toList
def ObsAt (w : World) (a : Option Addr) (l : List Ob) : Prop := l = [] ∨ ∃ g o, a = some ⟨g, o, none⟩ ∧ ∀ i, i < l.length → w.rangeAt g (o + i * 10) (obC (l.getD i ob0))
def ObIn (x : Ob) : Prop := In64 x.k ∧ In64 x.v ∧ ∀ j, InU (x.l j)
theorem obC_len (x : Ob) : (obC x).length = 10 := by unfold obC; rw [Array.length_toList, obV_size]
theorem s10_obC (x : Ob) : (Tryz.prog.info? 88).map (·.size) = some (obC x).length := by rw [obC_len]; kernel_rfl
theorem obC_range {w : World} {g : Nat} {t : TypeId} {x : Ob} (h : w.heap[g]? = some (.cells (obV x.k x.v x.l) t (0, 0))) : w.rangeAt g 2 (lnV x.l).toList := fun j v hv => by
  have hj : j < 8 := by
    rcases Nat.lt_or_ge j 8 with q | q
    · exact q
    · rw [List.getElem?_eq_none (by rw [Array.length_toList, lnV_size]; exact q)] at hv; cases hv
  rw [cell_of_block h]
  unfold obV
  rw [Array.getElem?_append_right (by simp), show 2 + j - (#[Value.int .i64 x.k, .int .i64 x.v] : Array Value).size = j by simp, ← Array.getElem?_toList]
  exact hv
theorem ObsAt.range {w : World} {a : Option Addr} {l : List Ob} (h : ObsAt w a l) (i : Nat) (hi : i < l.length) : ∃ g o, a = some ⟨g, o, none⟩ ∧ w.rangeAt g (o + i * 10) (obC (l.getD i ob0)) := by
  rcases h with rfl | ⟨g, o, e, h⟩
  · simp at hi
  · exact ⟨g, o, e, h i hi⟩
theorem range_keeps {w w' : World} (hk : Keeps (fun _ => False) w w') {b o : Nat} {cs : List Value} (h : w.rangeAt b o cs) : w'.rangeAt b o cs := fun j v hv => hk.cellOf (h j v hv) id
theorem ObsAt.keeps {w w' : World} {a : Option Addr} {l : List Ob} (h : ObsAt w a l) (hk : Keeps (fun _ => False) w w') : ObsAt w' a l := by
  rcases h with h | ⟨g, o, e, h⟩
  · exact Or.inl h
  · exact Or.inr ⟨g, o, e, fun i hi => range_keeps hk (h i hi)⟩

theorem from_any (c : Nat) (hc : c ≤ 8) (w : World) : Calls Tryz.prog 59 #[.int .i64 (c : Int)] w fun e w' => e = .returned (.int .i64 (fromN c : Nat)) ∧ w' = w := by
  have h1 : (c : Int) ≤ 8 := by omega
  go_enter Tryz.func59, Tryz.ntmps59
  go_wp2_with fail
  go_ret
  refine ⟨?_, rfl⟩
  unfold fromN
  congr 2 <;> omega

set_option maxHeartbeats 4000000 in
theorem imlines_any (a : Option Addr) (cap : Nat) (l : List Ob) (hl : l.length ≤ 1000) (w : World) (hob : ObsAt w a l) :
    Calls Tryz.prog 107 #[.slice a l.length cap] w fun e w' => e = .returned (.int .i64 ((8 + cntO l : Nat) : Int)) ∧ Below w.heap.size w w' := by
  have HOB := hide hob
  have HL := hide hl
  clear hob hl
  go_enter Tryz.func107, Tryz.ntmps107
  go_wp2_with fail
  go_loopw [3, 8] (fun q c wr => ∃ j : Nat, j ≤ l.length ∧ q = .int .i64 ((8 + cntO (l.take j) : Nat) : Int) ∧ c = .int .i64 j ∧ Below w.heap.size w wr) (fun q c _ => l.length - (intOf c).toNat)
  case atStart => exact ⟨0, by omega, rfl, rfl, Below.refl _ _⟩
  case round =>
    obtain ⟨j, hj, rfl, rfl, hb⟩ := hrel
    have HB := hide hb
    clear hb
    by_cases hlt : j < l.length
    · skip
      obtain ⟨ga, oa, rfl, hrg⟩ := (unhide HOB).range j hlt
      have hlt' : (j : Int) < (l.length : Int) := by omega
      have hj63 : (j : Int) < 1000 := by have := unhide HL; omega
      obtain ⟨x, hx⟩ : ∃ x, x = l.getD j ob0 := ⟨_, rfl⟩
      rw [← hx] at hrg
      have HX := hide hx
      clear hx
      have RG := hide (range_keeps (Keeps.of_below (unhide HB)) hrg)
      have s10 := s10_obC x
      have s10v : (Tryz.prog.info? 88).map (·.size) = some (obV x.k x.v x.l).size := by rw [obV_size]; kernel_rfl
      have ZL := hide zero_ob
      have X10 := hide (obV_one x.k x.v x.l)
      have SZ : Hid ((obV 0 0 fun _ => 0).size = (obV x.k x.v x.l).size) := by show _ = _; rw [obV_size, obV_size]
      have EC : Hid ((obC x).toArray = obV x.k x.v x.l) := by show _ = _; unfold obC; exact Array.toArray_toList
      have HNW := hide (fun w0 : World => heap_new w0 (.cells (obV x.k x.v x.l) 88))
      generalize (obV 0 0 fun _ => 0) = ZV at *
      clear hrg
      have hcn := cnt_next l j hlt
      rw [← unhide HX] at hcn
      have hcl : cntO (l.take j) ≤ 1000 := Nat.le_trans (cnt_mono l (show j ≤ l.length by omega)) (by rw [cnt_all]; exact Nat.le_trans (cnt_le l) (unhide HL))
      generalize cntO (l.take j) = C0 at *
      go_upto_region 5 with (first | (with_reducible refine wpList_load_mid (by with_unfolding_all rfl) 88 _ (by with_unfolding_all rfl) ga (oa + j * 10) (by with_unfolding_all rfl) (obC x) _ (unhide RG) Tryz.underlying88 (by with_unfolding_all rfl) s10 ?_; rw [unhide EC]) | (with_reducible refine wpList_allocZ (by with_unfolding_all rfl) 88 (by with_unfolding_all rfl) ZV (unhide ZL) ?_) | (with_reducible refine wpList_store_row (by with_unfolding_all rfl) 88 _ _ (by with_unfolding_all rfl) wr.heap.size (obV x.k x.v x.l) (by with_unfolding_all rfl) (by with_unfolding_all rfl) 88 ZV (heap_new wr _) s10v (unhide SZ) (unhide X10) ?_; rw [setRow_alloc]))
      have B2 := hide ((unhide HB).alloc (unhide HB).size (.cells (obV x.k x.v x.l) 88))
      have c0 : (wr.alloc (.cells (obV x.k x.v x.l) 88)).cell? ⟨wr.heap.size, 0, none⟩ = some (.int .i64 x.k) := by rw [cell_of_block (heap_new _ _)]; rfl
      clear HB RG s10 s10v ZL X10 SZ EC HNW
      generalize wr.alloc (.cells (obV x.k x.v x.l) 88) = w2 at *
      by_cases hk : x.k = 0
      · have hkb : (x.k == 0) = true := by simpa using hk
        have hkb2 : (x.k != 0) = false := by simpa using hk
        rw [if_pos hk] at hcn
        have HCN := hide hcn
        clear hk hcn
        go_wp2_with fail
        go_roundw
        case rel => exact ⟨j + 1, by omega, by rw [unhide HCN]; rfl, by go_num, unhide B2⟩
        case measure => simp [intOf]; omega
      · have hkb : (x.k == 0) = false := by simpa using hk
        have hkb2 : (x.k != 0) = true := by simpa using hk
        rw [if_neg hk] at hcn
        have HCN := hide hcn
        clear hk hcn
        go_wp2_with fail
        go_roundw
        case rel => exact ⟨j + 1, by omega, by rw [unhide HCN]; congr 1 <;> omega, by go_num, unhide B2⟩
        case measure => simp [intOf]; omega
    · obtain rfl : j = l.length := by omega
      rw [cnt_all]
      go_wp2_with fail
      go_ret
      exact ⟨rfl, unhide HB⟩

theorem build_ln0 : Tryz.prog.built 83 [] = some (lnV fun _ => 0) := by kernel_rfl
theorem wpList_build0i {P : Program} {ops : Array Oper} {rest : List Oper} {o : Oper} {a : Act} {w : World} {Q : Exit → Act → World → Prop} (hw : Region.wanted o (yielded ops a.tmps) = true) (t : TypeId) (ho : o.op = .build t #[]) (cs : Array Value) (hb : P.built t [] = some cs)
    (h : wpList P ops Q rest (a.put o.dst (.agg cs)) w) : wpList P ops Q (o :: rest) a w :=
  wpList_step fun K hK => by
    rw [if_pos hw]
    unfold Oper.wp execOp
    simp only [ho, Sem.run_bind, Array.map_empty, run_build w t #[] cs hb, Result.andThen_ok]
    exact hK _ _ h
set_option maxHeartbeats 4000000 in
theorem immay_any (a : Option Addr) (cap : Nat) (l : List Ob) (hl : l.length ≤ 1000) (w : World) (hob : ObsAt w a l) :
    Calls Tryz.prog 105 #[.slice a l.length cap] w fun e w' => e = .returned (.bool (decide (l.length ≤ 49) && l.all obM)) ∧ Below w.heap.size w w' := by
  have HOB := hide hob
  have HL := hide hl
  clear hob hl
  by_cases h49 : l.length ≤ 49
  · have HF0 : Hid (∀ i, i < l.length → obM (l.getD i ob0) = false → (decide (l.length ≤ 49) && l.all obM) = false) := fun i hi hm => by
      rw [Bool.and_eq_false_iff]
      right
      cases hq : l.all obM with
      | false => rfl
      | true => rw [List.all_eq_true] at hq; rw [hq _ (getD_mem hi)] at hm; cases hm
    have HT0 : Hid ((∀ i, i < l.length → obM (l.getD i ob0) = true) → (decide (l.length ≤ 49) && l.all obM) = true) := fun hm => by
      rw [Bool.and_eq_true, decide_eq_true_iff, List.all_eq_true]
      refine ⟨h49, fun x hx => ?_⟩
      obtain ⟨i, hi, rfl⟩ := List.getElem_of_mem hx
      have := hm i hi
      rwa [List.getD_eq_getElem?_getD, List.getElem?_eq_getElem hi] at this
    have h49' : (l.length : Int) ≤ 49 := by omega
    generalize (decide (l.length ≤ 49) && l.all obM) = RES at *
    clear h49
    go_enter Tryz.func105, Tryz.ntmps105
    go_wp2_with fail
    go_loopw [10] (fun c wr => ∃ j : Nat, j ≤ l.length ∧ c = .int .i64 j ∧ (∀ i, i < j → obM (l.getD i ob0) = true) ∧ Below w.heap.size w wr) (fun c _ => l.length - (intOf c).toNat)
    case atStart => exact ⟨0, by omega, rfl, fun i hi => absurd hi (Nat.not_lt_zero i), Below.refl _ _⟩
    case round =>
      obtain ⟨j, hj, rfl, hall, hb⟩ := hrel
      have HB := hide hb
      have HALL := hide hall
      clear hb hall
      by_cases hlt : j < l.length
      · skip
        obtain ⟨ga, oa, rfl, hrg⟩ := (unhide HOB).range j hlt
        have hlt' : (j : Int) < (l.length : Int) := by omega
        have hj63 : (j : Int) < 1000 := by have := unhide HL; omega
        obtain ⟨x, hx⟩ : ∃ x, x = l.getD j ob0 := ⟨_, rfl⟩
        rw [← hx] at hrg
        have HX := hide hx
        clear hx
        have RG := hide (range_keeps (Keeps.of_below (unhide HB)) hrg)
        have s10 := s10_obC x
        have s10v : (Tryz.prog.info? 88).map (·.size) = some (obV x.k x.v x.l).size := by rw [obV_size]; kernel_rfl
        have ZL := hide zero_ob
        have X10 := hide (obV_one x.k x.v x.l)
        have SZ : Hid ((obV 0 0 fun _ => 0).size = (obV x.k x.v x.l).size) := by show _ = _; rw [obV_size, obV_size]
        have EC : Hid ((obC x).toArray = obV x.k x.v x.l) := by show _ = _; unfold obC; exact Array.toArray_toList
        have HNW := hide (fun w0 : World => heap_new w0 (.cells (obV x.k x.v x.l) 88))
        generalize (obV 0 0 fun _ => 0) = ZV at *
        clear hrg
        have HF : Hid (obM x = false → RES = false) := fun hm => unhide HF0 j hlt (by rw [← unhide HX]; exact hm)
        have HN1 : Hid (obM x = true → ∀ i, i < j + 1 → obM (l.getD i ob0) = true) := fun hm i hi => by
          by_cases e : i = j
          · subst e; rw [← unhide HX]; exact hm
          · exact unhide HALL i (by omega)
        have HMB := hide (obM_iff x)
        go_upto_region 6 with (first | (with_reducible refine wpList_load_mid (by with_unfolding_all rfl) 88 _ (by with_unfolding_all rfl) ga (oa + j * 10) (by with_unfolding_all rfl) (obC x) _ (unhide RG) Tryz.underlying88 (by with_unfolding_all rfl) s10 ?_; rw [unhide EC]) | (with_reducible refine wpList_allocZ (by with_unfolding_all rfl) 88 (by with_unfolding_all rfl) ZV (unhide ZL) ?_) | (with_reducible refine wpList_store_row (by with_unfolding_all rfl) 88 _ _ (by with_unfolding_all rfl) wr.heap.size (obV x.k x.v x.l) (by with_unfolding_all rfl) (by with_unfolding_all rfl) 88 ZV (heap_new wr _) s10v (unhide SZ) (unhide X10) ?_; rw [setRow_alloc]))
        have B2 := hide ((unhide HB).alloc (unhide HB).size (.cells (obV x.k x.v x.l) 88))
        have c0 : (wr.alloc (.cells (obV x.k x.v x.l) 88)).cell? ⟨wr.heap.size, 0, none⟩ = some (.int .i64 x.k) := by rw [cell_of_block (heap_new _ _)]; rfl
        have c1 : (wr.alloc (.cells (obV x.k x.v x.l) 88)).cell? ⟨wr.heap.size, 1, none⟩ = some (.int .i64 x.v) := by rw [cell_of_block (heap_new _ _)]; rfl
        have RL := hide (obC_range (x := x) (heap_new wr (.cells (obV x.k x.v x.l) 88)))
        clear HB RG s10 s10v ZL X10 SZ EC HNW HF0 HALL HOB
        generalize wr.alloc (.cells (obV x.k x.v x.l) 88) = w2 at *
        by_cases hk0 : x.k < 0
        · have HBAD : obM x = false := Bool.eq_false_iff.2 fun q => by have := (unhide HMB).1 q; omega
          clear HMB HN1 RL
          have HF2 := hide (unhide HF HBAD)
          clear HF
          go_wp2_with fail
          go_ret
          rw [unhide HF2]
          exact ⟨rfl, unhide B2⟩
        by_cases hk4 : 4 < x.k
        · have HBAD : obM x = false := Bool.eq_false_iff.2 fun q => by have := (unhide HMB).1 q; omega
          clear HMB HN1 RL
          have HF2 := hide (unhide HF HBAD)
          clear HF
          go_wp2_with fail
          go_ret
          rw [unhide HF2]
          exact ⟨rfl, unhide B2⟩
        by_cases hv0 : x.v < 0
        · have HBAD : obM x = false := Bool.eq_false_iff.2 fun q => by have := (unhide HMB).1 q; omega
          clear HMB HN1 RL
          have HF2 := hide (unhide HF HBAD)
          clear HF
          go_wp2_with fail
          go_ret
          rw [unhide HF2]
          exact ⟨rfl, unhide B2⟩
        by_cases hv4 : 16777215 < x.v
        · have HBAD : obM x = false := Bool.eq_false_iff.2 fun q => by have := (unhide HMB).1 q; omega
          clear HMB HN1 RL
          have HF2 := hide (unhide HF HBAD)
          clear HF
          go_wp2_with fail
          go_ret
          rw [unhide HF2]
          exact ⟨rfl, unhide B2⟩
        have k1 : 0 ≤ x.k := by omega
        have k2 : x.k ≤ 4 := by omega
        have k3 : 0 ≤ x.v := by omega
        have k4 : x.v ≤ 16777215 := by omega
        clear hk0 hk4 hv0 hv4
        by_cases hk : x.k = 0
        · have hkb : (x.k == 0) = true := by simpa using hk
          have hl8 : (lnV x.l).toList.toArray = lnV x.l := Array.toArray_toList
          have s8 : (Tryz.prog.info? 83).map (·.size) = some (lnV x.l).toList.length := by rw [Array.length_toList]; exact s8_ln x.l
          have BZ := hide build_ln0
          cases hz : eqL x.l fun _ => 0 with
          | true =>
            have HM : Hid (obM x = true) := (unhide HMB).2 ⟨⟨⟨k1, k2⟩, k3, k4⟩, Or.inr ((eqL_iff _ _).1 hz)⟩
            have HN2 := hide (unhide HN1 (unhide HM))
            have HZ := hide hz
            clear HMB HN1 HM HF hz
            go_wp2_with (first | (with_reducible refine wpList_load_mid_w (by with_unfolding_all rfl) 83 _ (by with_unfolding_all rfl) wr.heap.size 2 (by with_unfolding_all rfl) (lnV x.l).toList _ (unhide RL) Tryz.underlying83 (by with_unfolding_all rfl) s8 ?_; rw [hl8]) | (with_reducible refine wpList_build0i (by with_unfolding_all rfl) 83 (by with_unfolding_all rfl) _ (unhide BZ) ?_) | (with_reducible refine wpList_neq (by with_unfolding_all rfl) _ _ (by with_unfolding_all rfl) x.l (fun _ => 0) (by with_unfolding_all rfl) (by with_unfolding_all rfl) ?_; rw [unhide HZ]))
            go_roundw
            case rel => exact ⟨j + 1, by omega, by go_num, unhide HN2, unhide B2⟩
            case measure => simp [intOf]; omega
          | false =>
            have HBAD : obM x = false := Bool.eq_false_iff.2 fun q => by
              rcases ((unhide HMB).1 q).2 with q | q
              · exact q hk
              · rw [(eqL_iff _ _).2 q] at hz; cases hz
            have HF2 := hide (unhide HF HBAD)
            have HZ := hide hz
            clear HMB HN1 HF hz
            go_wp2_with (first | (with_reducible refine wpList_load_mid_w (by with_unfolding_all rfl) 83 _ (by with_unfolding_all rfl) wr.heap.size 2 (by with_unfolding_all rfl) (lnV x.l).toList _ (unhide RL) Tryz.underlying83 (by with_unfolding_all rfl) s8 ?_; rw [hl8]) | (with_reducible refine wpList_build0i (by with_unfolding_all rfl) 83 (by with_unfolding_all rfl) _ (unhide BZ) ?_) | (with_reducible refine wpList_neq (by with_unfolding_all rfl) _ _ (by with_unfolding_all rfl) x.l (fun _ => 0) (by with_unfolding_all rfl) (by with_unfolding_all rfl) ?_; rw [unhide HZ]))
            go_ret
            rw [unhide HF2]
            exact ⟨rfl, unhide B2⟩
        · have hkb : (x.k == 0) = false := by simpa using hk
          have HM : Hid (obM x = true) := (unhide HMB).2 ⟨⟨⟨k1, k2⟩, k3, k4⟩, Or.inl hk⟩
          have HN2 := hide (unhide HN1 (unhide HM))
          clear HMB HN1 HM HF hk RL
          go_wp2_with fail
          go_roundw
          case rel => exact ⟨j + 1, by omega, by go_num, unhide HN2, unhide B2⟩
          case measure => simp [intOf]; omega
      · obtain rfl : j = l.length := by omega
        have HR := hide (unhide HT0 (unhide HALL))
        go_wp2_with fail
        go_ret
        rw [unhide HR]
        exact ⟨rfl, unhide HB⟩
  · have h49' : (49 : Int) < (l.length : Int) := by omega
    have HR : Hid ((decide (l.length ≤ 49) && l.all obM) = false) := by show _ = _; rw [decide_eq_false h49]; rfl
    rw [unhide HR]
    clear h49 HR
    go_enter Tryz.func105, Tryz.ntmps105
    go_wp2_with fail
    go_ret
    exact ⟨rfl, Below.refl _ _⟩

end Go.Proofs.YtiafhcgaikapcaaGreat
