import Derived.Test.YtiafhcgaikapcaaGreatRMem
import Derived.Test.YtiafhcgaikapcaaGreatRCalls
import Derived.Test.YtiafhcgaikapcaaGreatHeld
import Derived.Deep.Cut
import Derived.Test.YtiafhcgaikapcaaGreatPkSu

/-
  rlog's visit: each line of a core's log is shown, with its record, to whatever function; a state of that function's own goes along.
-/
namespace Go.Proofs.YtiafhcgaikapcaaGreat
open Go.ChangeShapes Go.WideShapes Go.ChangeAt Go.RowKit Go.Joins
set_option maxRecDepth 10000
set_option linter.unusedVariables false
set_option linter.unusedSimpArgs false

/-- A memory, and a state in blocks C apart from the caller's G. -/
def VSt (W : World) (b : Nat) (A : Mm) (R : World → (Nat → Prop) → Prop) (w : World) (G : Nat → Prop) : Prop :=
  ∃ C : Nat → Prop, Has W w (fun k => G k ∨ C k) b A ∧ R w C ∧ (∀ k, G k → ¬ C k) ∧ (∀ k, C k → W.heap.size ≤ k)
def Loc (R : World → (Nat → Prop) → Prop) : Prop := ∀ w w' C, R w C → Same C w w' → R w' C
theorem VSt.stay (W : World) (b : Nat) (A : Mm) {R : World → (Nat → Prop) → Prop} (hR : Loc R) : Stay W (VSt W b A R) where
  al := fun w G o ⟨C, h1, h2, h3, h4⟩ => ⟨C, (h1.alloc o).less (fun k hk => by
      rcases hk with (hk | hk) | hk
      · exact Or.inl (Or.inl hk)
      · exact Or.inr hk
      · exact Or.inl (Or.inr hk)), hR _ _ _ h2 (fun k hk => Below.heap_alloc w o k (h1.lt k (Or.inr hk))), (fun k hk hc => by
      rcases hk with hk | hk
      · exact h3 k hk hc
      · have := h1.lt k (Or.inr hc); omega), h4⟩
  ls := fun w G G' ⟨C, h1, h2, h3, h4⟩ hs => ⟨C, h1.less (fun k hk => hk.imp (hs k) id), h2, fun k hk => h3 k (hs k hk), h4⟩
  bl := fun w w' G ⟨C, h1, h2, h3, h4⟩ hk => ⟨C, (Has.stay W b A).bl _ _ _ h1 hk, hR _ _ _ h2 (fun k hc => hk.block k (h1.lt k (Or.inr hc)) id), h3, h4⟩
  ow := fun w w' G L ⟨C, h1, h2, h3, h4⟩ hL hW hk => ⟨C, h1.own (Or.inl hL) hW hk, hR _ _ _ h2 (fun k hc => hk.block k (h1.lt k (Or.inr hc)) (fun e => h3 L hL (e ▸ hc))), h3, h4⟩
  lt := fun w G ⟨C, h1, _, _, _⟩ k hk => h1.lt k (Or.inl hk)
  sz := fun w G ⟨C, h1, _, _, _⟩ => h1.keeps
theorem VSt.of_after {W w : World} {b : Nat} {A : Mm} {R : World → (Nat → Prop) → Prop} (hR : Loc R) {G : Nat → Prop} {f : FuncId} {args : Array Value} {v : Value} (h : VSt W b A R w G)
    (hc : ∀ G, Has W w G b A → Calls Tryz.prog f args w (After W w G b A v)) : Calls Tryz.prog f args w (Done (VSt W b A R) w G v) := by
  obtain ⟨C, h1, h2, h3, h4⟩ := h
  exact (hc _ h1).mono fun e w' ⟨he, hh, hs⟩ => ⟨he, ⟨C, hh, hR _ _ _ h2 (fun k hk => hs k (Or.inr hk)), h3, h4⟩, fun k hk => hs k (Or.inl hk)⟩

theorem placeR_any (c n : Nat) (hc : c < 8) (hn : n < 4) (w : World) : Calls Tryz.prog 202 #[.int .i64 (c : Int), .int .i64 (n : Int)] w fun e w' => e = .returned (.int .i64 ((2 + 4 * c + n : Nat) : Int)) ∧ w' = w := by
  go_enter Tryz.func202, Tryz.ntmps202
  go_wp2_with fail
  go_ret
  refine ⟨?_, rfl⟩
  congr 2
  try omega
theorem visit_off {W w : World} {b : Nat} {A : Mm} (hok : A.ok 1000) (hon : A.on = false) (c : Nat) (hc : c < 8) {R : World → (Nat → Prop) → Prop} (hR : Loc R) (fv : Value) {G : Nat → Prop} (h : VSt W b A R w G) :
    Calls Tryz.prog 173 #[.pointer (some ⟨b, 0, none⟩), .int .i64 (c : Int), fv] w (Done (VSt W b A R) w G (.int .i64 4)) := by
  have T := VSt.stay W b A hR
  have O0 := hide (Held.start T h)
  have CP := hide (placeR_any c 0 hc (by decide))
  have n8 := iv_new .u64 (rowOf fun _ => 0) 8 (rowOf_len _) 83
  have z8 : (iv .u64 (rowOf fun _ => 0)).size = 8 := by rw [iv_size, rowOf_len]
  have CL : Hid (∀ w G, VSt W b A R w G → Calls Tryz.prog 47 #[.pointer (some ⟨b, 0, none⟩), .int .i64 ((2 + 4 * c + 0 : Nat) : Int)] w (Done (VSt W b A R) w G (.tuple #[.agg (iv .u64 (rowOf fun _ => 0)), .int .i64 4]))) := fun w G h => by
    refine h.of_after hR (fun G h => ?_)
    rw [← lnV_iv]
    exact h.load_off _ ⟨by omega, by have := hok.1; omega⟩ hon
  clear h hok hon
  generalize iv .u64 (rowOf fun _ => 0) = X at *
  go_enter Tryz.func173, Tryz.ntmps173
  go_wp2_with fail
  go_loopw [13] (fun c' wr => c' = .int .i64 0 ∧ wr = w) (fun c' _ => 0)
  case atStart => exact ⟨rfl, rfl⟩
  case round =>
    obtain ⟨rfl, rfl⟩ := hrel
    go_wp2_with fail
    refine (unhide CP _).mono ?_
    rintro e w1 ⟨rfl, rfl⟩
    go_wp2_with fail
    refine (unhide CL _ _ (unhide O0).st).mono ?_
    rintro e w2 ⟨rfl, h1, h2⟩
    have O2 := hide (((unhide O0).call h1 h2).alloc T (.cells X 83))
    clear h1 h2 O0
    go_wp2_with fail
    go_ret
    exact (unhide O2).done T _

theorem visit_on {W w : World} {b : Nat} {A : Mm} (hok : A.ok 1000) (hon : A.on = true) (c : Nat) (hc : c < 8) (R : Nat → World → (Nat → Prop) → Prop) (hR : ∀ j, Loc (R j)) (f : Nat) (caps : Array Value) (hcall : ∀ args (W : World), Sem.run Tryz.prog (callFunc f args) W = .ok (.enter f args) W)
    (hdo : ∀ j, j < 4 → ∀ w G, VSt W b A (R j) w G → Calls Tryz.prog f (#[.int .i64 ((2 + 4 * c + j : Nat) : Int), .agg (rv (readRV (A.rowN (2 + 4 * c + j)))), .bool (isR (A.rowN (2 + 4 * c + j)))] ++ caps) w (Done (VSt W b A (R (j + 1))) w G (.tuple #[])))
    {G : Nat → Prop} (h : VSt W b A (R 0) w G) :
    Calls Tryz.prog 173 #[.pointer (some ⟨b, 0, none⟩), .int .i64 (c : Int), .func (.func f) #[] caps] w (Done (VSt W b A (R 4)) w G (.int .i64 0)) := by
  have T : ∀ j, Stay W (VSt W b A (R j)) := fun j => VSt.stay W b A (hR j)
  have O0 := hide (Held.start (T 0) h)
  have CP : Hid (∀ n : Nat, n < 4 → ∀ w : World, Calls Tryz.prog 202 #[.int .i64 (c : Int), .int .i64 (n : Int)] w fun e w' => e = .returned (.int .i64 ((2 + 4 * c + n : Nat) : Int)) ∧ w' = w) := fun n hn => placeR_any c n hc hn
  have CL : Hid (∀ j, j < 4 → ∀ w G, VSt W b A (R j) w G → Calls Tryz.prog 47 #[.pointer (some ⟨b, 0, none⟩), .int .i64 ((2 + 4 * c + j : Nat) : Int)] w (Done (VSt W b A (R j)) w G (.tuple #[.agg (iv .u64 (A.rowN (2 + 4 * c + j))), .int .i64 0]))) := fun j hj w G h => by
    refine h.of_after (hR j) (fun G h => ?_)
    unfold Mm.rowN
    rw [← lnV_iv]
    exact h.load _ _ rfl (by have := hok.1; omega) hon hok.2.1
  have CR : Hid (∀ j, ∀ w : World, Calls Tryz.prog 203 #[.agg (iv .u64 (A.rowN (2 + 4 * c + j)))] w fun e w' => e = .returned (.tuple #[.agg (rv (readRV (A.rowN (2 + 4 * c + j)))), .bool (isR (A.rowN (2 + 4 * c + j)))]) ∧ Below w.heap.size w w') := fun j => readR_any _ (rowN_len _ _) (rowN_wf hok _)
  have HD := hide hdo
  have HZ : Hid (∀ j, (iv .u64 (A.rowN (2 + 4 * c + j))).size = 8) := fun j => by show _ = _; rw [iv_size, rowN_len]
  have HNX : Hid (∀ j, ∀ (W : World) (C : Array Value), C.size = 8 → Sem.run Tryz.prog (storeCells ⟨W.heap.size, 0, none⟩ (iv .u64 (A.rowN (2 + 4 * c + j))).toList) (W.alloc (.cells C 83)) = .ok () (W.alloc (.cells (iv .u64 (A.rowN (2 + 4 * c + j))) 83))) := fun j => iv_new .u64 _ 8 (rowN_len _ _) 83
  clear h hok hon hdo
  go_enter Tryz.func173, Tryz.ntmps173
  go_wp2_with fail
  go_loopw [13] (fun c' wr => ∃ j : Nat, j ≤ 4 ∧ c' = .int .i64 j ∧ Held W (VSt W b A (R j)) w wr G []) (fun c' _ => 4 - (intOf c').toNat)
  case atStart => exact ⟨0, by omega, rfl, unhide O0⟩
  case round =>
    clear O0
    obtain ⟨j, hj, rfl, hh⟩ := hrel
    have HH := hide hh
    clear hh
    by_cases hlt : j < 4
    · have hlt' : (j : Int) < 4 := by omega
      have C2 := hide (unhide CR j)
      have C1 := hide (unhide CL j hlt)
      have C3 := hide (unhide HD j hlt)
      have nX := unhide HNX j
      have zX := unhide HZ j
      have nR := rv_new (readRV (A.rowN (2 + 4 * c + j))) 126
      have s8 : (Tryz.prog.info? 83).map (·.size) = some (iv .u64 (A.rowN (2 + 4 * c + j))).size := by rw [zX]; exact size8
      have s4 : (Tryz.prog.info? 126).map (·.size) = some (rv (readRV (A.rowN (2 + 4 * c + j)))).size := size4R
      have z4 := rv_size (readRV (A.rowN (2 + 4 * c + j)))
      generalize iv .u64 (A.rowN (2 + 4 * c + j)) = X at *
      generalize rv (readRV (A.rowN (2 + 4 * c + j))) = V at *
      generalize isR (A.rowN (2 + 4 * c + j)) = ok at *
      go_wp2_with fail
      refine (unhide CP j hlt _).mono ?_
      rintro e w1 ⟨rfl, rfl⟩
      go_wp2_with fail
      refine (unhide C1 _ _ (unhide HH).st).mono ?_
      rintro e w2 ⟨rfl, h1, h2⟩
      have O2 := hide (((unhide HH).call h1 h2).alloc (T j) (.cells X 83))
      clear h1 h2 HH
      have KX := hide ((unhide O2).at w2.heap.size (.cells X 83) (by simp))
      go_wp2_with (refine wpList_load_row rfl 83 _ rfl w2.heap.size rfl _ _ _ _ (unhide KX) Tryz.underlying83 rfl s8 ?_)
      refine (unhide C2 _).mono ?_
      rintro e w3 ⟨rfl, hb⟩
      have O3 := hide (((unhide O2).below (T j) hb).alloc (T j) (.cells V 126))
      clear hb O2 KX nX
      have KV := hide ((unhide O3).at w3.heap.size (.cells V 126) (by simp))
      go_wp2_with (refine wpList_load_row rfl 126 _ rfl w3.heap.size rfl _ _ _ _ (unhide KV) Tryz.underlying126 rfl s4 ?_)
      refine (unhide C3 _ _ (unhide O3).st).mono ?_
      rintro e w4 ⟨rfl, h1, h2⟩
      have O4 := hide (((unhide O3).call h1 h2).less (T (j + 1)) (L' := []) (by simp))
      clear h1 h2 O3 KV nR
      go_wp2_with fail
      go_roundw
      case rel => exact ⟨j + 1, by omega, by go_num, unhide O4⟩
      case measure => simp [intOf]; omega
    · obtain rfl : j = 4 := by omega
      go_wp2_with fail
      go_ret
      exact (unhide HH).done (T 4) _

end Go.Proofs.YtiafhcgaikapcaaGreat


/-
  rlog's Free: the first line of a core's log that is free, for whatever core and number.
-/
namespace Go.Proofs.YtiafhcgaikapcaaGreat
open Go.ChangeShapes Go.WideShapes Go.ChangeAt Go.RowKit Go.Joins
set_option maxRecDepth 10000
set_option linter.unusedVariables false
set_option linter.unusedSimpArgs false

/-- What Free's function has seen: whether a line was free, and which one. -/
def FreeSt (F Q B : Nat) (seq : Int) (c : Nat) (o : Option Nat) (w : World) (C : Nat → Prop) : Prop :=
  (∀ k, C k ↔ k = F ∨ k = Q ∨ k = B) ∧ w.heap[F]? = some (.cells #[.bool o.isSome] 4 (0, 0)) ∧ w.heap[Q]? = some (.cells #[.int .i64 seq] 3 (0, 0)) ∧ w.heap[B]? = some (.cells #[.int .i64 (firstV c o)] 3 (0, 0))
theorem freeSt_loc (F Q B : Nat) (seq : Int) (c : Nat) (o : Option Nat) : Loc (FreeSt F Q B seq c o) := fun w w' C ⟨h1, h2, h3, h4⟩ hs =>
  ⟨h1, (hs F ((h1 F).2 (Or.inl rfl))).trans h2, (hs Q ((h1 Q).2 (Or.inr (Or.inl rfl)))).trans h3, (hs B ((h1 B).2 (Or.inr (Or.inr rfl)))).trans h4⟩
theorem free_show {W w : World} {b : Nat} {A : Mm} {F Q B : Nat} (hFQ : F ≠ Q) (hFB : F ≠ B) (hQB : Q ≠ B) {seq : Int} {c j : Nat} (hj : j < 4) (hc : c < 8) {G : Nat → Prop} (h : VSt W b A (FreeSt F Q B seq c (A.freeN c seq j)) w G) :
    Calls Tryz.prog 174 (#[.int .i64 ((2 + 4 * c + j : Nat) : Int), .agg (rv (readRV (A.rowN (2 + 4 * c + j)))), .bool (isR (A.rowN (2 + 4 * c + j)))] ++ #[.pointer (some ⟨F, 0, none⟩), .pointer (some ⟨Q, 0, none⟩), .pointer (some ⟨B, 0, none⟩)]) w (Done (VSt W b A (FreeSt F Q B seq c (A.freeN c seq (j + 1)))) w G (.tuple #[])) := by
  have hnext := freeN_succ A c seq j
  have hB : A.freeB c seq j = (!isR (A.rowN (2 + 4 * c + j)) || decide ((readRV (A.rowN (2 + 4 * c + j))).q ≤ seq)) := rfl
  obtain ⟨C, h1, h2, h3, h4⟩ := id h
  obtain ⟨hC, kF, kQ, kB⟩ := id h2
  have lF : F < w.heap.size := h1.lt F (Or.inr ((hC F).2 (Or.inl rfl)))
  have lQ : Q < w.heap.size := h1.lt Q (Or.inr ((hC Q).2 (Or.inr (Or.inl rfl))))
  have lB : B < w.heap.size := h1.lt B (Or.inr ((hC B).2 (Or.inr (Or.inr rfl))))
  generalize readRV (A.rowN (2 + 4 * c + j)) = r at *
  generalize isR (A.rowN (2 + 4 * c + j)) = ok at *
  have HS : Hid (VSt W b A (FreeSt F Q B seq c (A.freeN c seq j)) (w.alloc (.cells (rv r) 126)) G ∧ Same G w (w.alloc (.cells (rv r) 126))) := ⟨(VSt.stay W b A (freeSt_loc _ _ _ _ _ _)).ls _ _ _ ((VSt.stay W b A (freeSt_loc _ _ _ _ _ _)).al _ _ _ h) (fun k hk => Or.inl hk), fun k hk => Below.heap_alloc w _ k (h1.lt k (Or.inl hk))⟩
  have eF : (w.alloc (.cells (rv r) 126)).heap[F]? = some (.cells #[.bool (A.freeN c seq j).isSome] 4 (0, 0)) := (Below.heap_alloc w _ F lF).trans kF
  have eQ : (w.alloc (.cells (rv r) 126)).heap[Q]? = some (.cells #[.int .i64 seq] 3 (0, 0)) := (Below.heap_alloc w _ Q lQ).trans kQ
  have eB : (w.alloc (.cells (rv r) 126)).heap[B]? = some (.cells #[.int .i64 (firstV c (A.freeN c seq j))] 3 (0, 0)) := (Below.heap_alloc w _ B lB).trans kB
  have cF : (w.alloc (.cells (rv r) 126)).cell? ⟨F, 0, none⟩ = some (.bool (A.freeN c seq j).isSome) := by rw [cell_of_block eF]; rfl
  have cQ : (w.alloc (.cells (rv r) 126)).cell? ⟨Q, 0, none⟩ = some (.int .i64 seq) := by rw [cell_of_block eQ]; rfl
  have cR : (w.alloc (.cells (rv r) 126)).cell? ⟨w.heap.size, 0, none⟩ = some (.int .i64 r.q) := by rw [cell_of_block (heap_new w _)]; rfl
  cases hf : (A.freeN c seq j) with
  | some n =>
    rw [hf] at cF HS
    rw [hf] at hnext
    have HN : Hid (A.freeN c seq (j + 1) = some n) := by show _ = _; rw [hnext]; rfl
    simp only [Option.isSome_some] at cF
    clear h h1 h2 h3 h4 hC kF kQ kB eF eQ eB hnext hB hf
    go_enter Tryz.func174, Tryz.ntmps174
    go_wp2_with fail
    go_end0
    rw [unhide HN]
    exact ⟨rfl, (unhide HS).1, (unhide HS).2⟩
  | none =>
    rw [hf] at cF HS
    rw [hf] at hnext
    simp only [Option.isSome_none, Option.none_or] at cF hnext
    cases hb : A.freeB c seq j with
    | false =>
      rw [hb] at hnext hB
      have hok : ok = true ∧ ¬ r.q ≤ seq := by
        simp at hB; exact ⟨hB.1, by omega⟩
      obtain ⟨rfl, hq⟩ := hok
      have HN : Hid (A.freeN c seq (j + 1) = none) := hnext
      clear h h1 h2 h3 h4 hC kF kQ kB eF eQ eB hnext hB hf hb
      go_enter Tryz.func174, Tryz.ntmps174
      go_wp2_with fail
      go_end0
      rw [unhide HN]
      exact ⟨rfl, (unhide HS).1, (unhide HS).2⟩
    | true =>
      rw [hb] at hnext hB
      have HN : Hid (A.freeN c seq (j + 1) = some j) := hnext
      rw [hf] at eF eB
      have HE : Hid (VSt W b A (FreeSt F Q B seq c (some j)) (((w.alloc (.cells (rv r) 126)).setCell ⟨B, 0, none⟩ (.int .i64 ((2 + 4 * c + j : Nat) : Int))).setCell ⟨F, 0, none⟩ (.bool true)) G ∧ Same G w (((w.alloc (.cells (rv r) 126)).setCell ⟨B, 0, none⟩ (.int .i64 ((2 + 4 * c + j : Nat) : Int))).setCell ⟨F, 0, none⟩ (.bool true))) := by
        obtain ⟨D, g1, ⟨gC, g2, g3, g4⟩, g5, g6⟩ := (unhide HS).1
        have hs := (unhide HS).2
        generalize w.alloc (.cells (rv r) 126) = u at *
        have k1 : Keeps (· = B) u (u.setCell ⟨B, 0, none⟩ (.int .i64 ((2 + 4 * c + j : Nat) : Int))) := Keeps.setCell (F := (· = B)) (p := ⟨B, 0, none⟩) (Keeps.refl _ _) rfl _
        have k2 : Keeps (· = F) (u.setCell ⟨B, 0, none⟩ (.int .i64 ((2 + 4 * c + j : Nat) : Int))) ((u.setCell ⟨B, 0, none⟩ (.int .i64 ((2 + 4 * c + j : Nat) : Int))).setCell ⟨F, 0, none⟩ (.bool true)) := Keeps.setCell (F := (· = F)) (p := ⟨F, 0, none⟩) (Keeps.refl _ _) rfl _
        have mB : D B := (gC B).2 (Or.inr (Or.inr rfl))
        have mF : D F := (gC F).2 (Or.inl rfl)
        have a1 := g1.own (Or.inr mB) (g6 B mB) k1
        have a2 := a1.own (Or.inr mF) (g6 F mF) k2
        refine ⟨⟨D, a2, ⟨gC, ?_, ?_, ?_⟩, g5, g6⟩, fun k hk => ?_⟩
        · rw [block_setCell ((heap_setCell_other u ⟨B, 0, none⟩ F _ hFB).trans g2)]; rfl
        · rw [heap_setCell_other _ _ _ _ (Ne.symm hFQ), heap_setCell_other _ _ _ _ hQB]; exact g3
        · rw [heap_setCell_other _ _ _ _ (Ne.symm hFB), block_setCell g4]; rfl
        · rw [heap_setCell_other _ _ _ _ (fun e => g5 k hk ((gC k).2 (Or.inl e))), heap_setCell_other _ _ _ _ (fun e => g5 k hk ((gC k).2 (Or.inr (Or.inr e))))]
          exact hs k hk
      have fB : (w.alloc (.cells (rv r) 126)).frozen? ⟨B, 0, none⟩ = false := unfrozen_of_block eB _
      have fF : (w.alloc (.cells (rv r) 126)).frozen? ⟨F, 0, none⟩ = false := unfrozen_of_block eF _
      have cB : (w.alloc (.cells (rv r) 126)).cell? ⟨B, 0, none⟩ = some (.int .i64 0) := by rw [cell_of_block eB]; rfl
      cases ok with
      | false =>
        clear h h1 h2 h3 h4 hC kF kQ kB eF eQ eB hnext hB hf hb HS
        generalize ((2 + 4 * c + j : Nat) : Int) = ln at *
        go_enter Tryz.func174, Tryz.ntmps174
        go_upto_region 2 with fail
        clear cR cQ lF lQ lB
        generalize w.alloc (.cells (rv r) 126) = u at *
        go_wp2_with fail
        go_end0
        rw [unhide HN]
        exact ⟨rfl, (unhide HE).1, (unhide HE).2⟩
      | true =>
        have hq : r.q ≤ seq := by simp at hB; exact hB
        clear h h1 h2 h3 h4 hC kF kQ kB eF eQ eB hnext hB hf hb HS
        generalize ((2 + 4 * c + j : Nat) : Int) = ln at *
        go_enter Tryz.func174, Tryz.ntmps174
        go_upto_region 2 with fail
        clear cR cQ lF lQ lB
        generalize w.alloc (.cells (rv r) 126) = u at *
        go_wp2_with fail
        go_end0
        rw [unhide HN]
        exact ⟨rfl, (unhide HE).1, (unhide HE).2⟩

theorem free_off {W w : World} {G : Nat → Prop} {b : Nat} {A : Mm} (h : Has W w G b A) (hok : A.ok 1000) (hon : A.on = false) (c : Nat) (hc : c < 8) (seq : Int) :
    Calls Tryz.prog 122 #[.pointer (some ⟨b, 0, none⟩), .int .i64 (c : Int), .int .i64 seq] w (After W w G b A (.tuple #[.int .i64 0, .int .i64 4])) := by
  have hcz : ¬ (c : Int) < 0 := by omega
  have hcz2 : (c : Int) < 8 := by omega
  obtain ⟨w0, hw0⟩ : ∃ w0, w0 = w.heap.size := ⟨_, rfl⟩
  have VS0 : ∀ W3, W3 = ((w.alloc (.cells #[.int .i64 seq] 3)).alloc (.cells #[.int .i64 0] 3)).alloc (.cells #[.bool false] 4) → VSt W b A (FreeSt (w0 + 1 + 1) w0 (w0 + 1) seq c none) W3 G ∧ Same G w W3 := fun W3 e3 => by
    have g3 := heap3 w (.cells #[.int .i64 seq] 3) (.cells #[.int .i64 0] 3) (.cells #[.bool false] 4)
    have a3 := ((h.alloc (.cells #[.int .i64 seq] 3)).alloc (.cells #[.int .i64 0] 3)).alloc (.cells #[.bool false] 4)
    have hl := h.lt
    have hk := h.keeps.size
    rw [← e3] at g3 a3
    simp only [World.size_alloc] at a3
    rw [← hw0] at g3 a3 hl hk
    refine ⟨⟨fun k => k = w0 + 1 + 1 ∨ k = w0 ∨ k = w0 + 1, a3.less (fun k hk => ?_), ⟨fun k => Iff.rfl, g3.2.2, g3.1, g3.2.1⟩, fun k hk => ?_, fun k hk => ?_⟩, fun k hk => ?_⟩
    · rcases hk with hk | rfl | rfl | rfl
      · exact Or.inl (Or.inl (Or.inl hk))
      · exact Or.inr rfl
      · exact Or.inl (Or.inl (Or.inr rfl))
      · exact Or.inl (Or.inr rfl)
    · have := hl k hk; omega
    · omega
    · have := hl k hk
      rw [e3, Below.heap_alloc _ _ _ (by simp; omega), Below.heap_alloc _ _ _ (by simp; omega), Below.heap_alloc _ _ _ (by omega)]
  have CV : Hid (∀ w G fv, VSt W b A (FreeSt (w0 + 1 + 1) w0 (w0 + 1) seq c none) w G → Calls Tryz.prog 173 #[.pointer (some ⟨b, 0, none⟩), .int .i64 (c : Int), fv] w (Done (VSt W b A (FreeSt (w0 + 1 + 1) w0 (w0 + 1) seq c none)) w G (.int .i64 4))) := fun w G fv h => visit_off hok hon c hc (freeSt_loc _ _ _ _ _ _) fv h
  clear h hok hon
  have VH := hide VS0
  clear VS0
  go_enter Tryz.func122, Tryz.ntmps122
  go_upto_region 4 with fail
  obtain ⟨V3, hV3⟩ : ∃ V3, V3 = ((w.alloc (.cells #[.int .i64 seq] 3)).alloc (.cells #[.int .i64 0] 3)).alloc (.cells #[.bool false] 4) := ⟨_, rfl⟩
  have VS := hide (unhide VH V3 hV3).1
  have SG := hide (unhide VH V3 hV3).2
  rw [← hV3, ← hw0]
  clear VH hV3 hw0
  go_wp2_with fail
  refine (unhide CV _ _ _ (unhide VS)).mono ?_
  rintro e w1 ⟨rfl, h1, h2⟩
  have E1 := hide h1
  have E2 := hide h2
  clear h1 h2
  go_wp2_with fail
  go_ret2
  obtain ⟨C, g1, -, -, -⟩ := unhide E1
  exact ⟨rfl, g1.less (fun k hk => Or.inl hk), fun k hk => (unhide E2 k hk).trans (unhide SG k hk)⟩

def freeNE : Option Nat → Int
  | some _ => 0
  | none => 11
theorem freeNE_eq (o : Option Nat) : (if o.isSome then (0 : Int) else 11) = freeNE o := by cases o <;> rfl
theorem free_enters : ∀ args (W : World), Sem.run Tryz.prog (callFunc 174 args) W = .ok (.enter 174 args) W := fun args W => by kernel_rfl

theorem free_on {W w : World} {G : Nat → Prop} {b : Nat} {A : Mm} (h : Has W w G b A) (hok : A.ok 1000) (hon : A.on = true) (c : Nat) (hc : c < 8) (seq : Int) :
    Calls Tryz.prog 122 #[.pointer (some ⟨b, 0, none⟩), .int .i64 (c : Int), .int .i64 seq] w (After W w G b A (.tuple #[.int .i64 (firstV c (A.freeN c seq 4)), .int .i64 (freeNE (A.freeN c seq 4))])) := by
  have hcz : ¬ (c : Int) < 0 := by omega
  have hcz2 : (c : Int) < 8 := by omega
  obtain ⟨w0, hw0⟩ : ∃ w0, w0 = w.heap.size := ⟨_, rfl⟩
  have VS0 : ∀ W3, W3 = ((w.alloc (.cells #[.int .i64 seq] 3)).alloc (.cells #[.int .i64 0] 3)).alloc (.cells #[.bool false] 4) → VSt W b A (FreeSt (w0 + 1 + 1) w0 (w0 + 1) seq c none) W3 G ∧ Same G w W3 := fun W3 e3 => by
    have g3 := heap3 w (.cells #[.int .i64 seq] 3) (.cells #[.int .i64 0] 3) (.cells #[.bool false] 4)
    have a3 := ((h.alloc (.cells #[.int .i64 seq] 3)).alloc (.cells #[.int .i64 0] 3)).alloc (.cells #[.bool false] 4)
    have hl := h.lt
    have hk := h.keeps.size
    rw [← e3] at g3 a3
    simp only [World.size_alloc] at a3
    rw [← hw0] at g3 a3 hl hk
    refine ⟨⟨fun k => k = w0 + 1 + 1 ∨ k = w0 ∨ k = w0 + 1, a3.less (fun k hk => ?_), ⟨fun k => Iff.rfl, g3.2.2, g3.1, g3.2.1⟩, fun k hk => ?_, fun k hk => ?_⟩, fun k hk => ?_⟩
    · rcases hk with hk | rfl | rfl | rfl
      · exact Or.inl (Or.inl (Or.inl hk))
      · exact Or.inr rfl
      · exact Or.inl (Or.inl (Or.inr rfl))
      · exact Or.inl (Or.inr rfl)
    · have := hl k hk; omega
    · omega
    · have := hl k hk
      rw [e3, Below.heap_alloc _ _ _ (by simp; omega), Below.heap_alloc _ _ _ (by simp; omega), Below.heap_alloc _ _ _ (by omega)]
  have n1 : w0 + 1 + 1 ≠ w0 := by omega
  have n2 : w0 + 1 + 1 ≠ w0 + 1 := by omega
  have n3 : w0 ≠ w0 + 1 := by omega
  have CV : Hid (∀ w G, VSt W b A (FreeSt (w0 + 1 + 1) w0 (w0 + 1) seq c none) w G → Calls Tryz.prog 173 #[.pointer (some ⟨b, 0, none⟩), .int .i64 (c : Int), .func (.func 174) #[] #[.pointer (some ⟨w0 + 1 + 1, 0, none⟩), .pointer (some ⟨w0, 0, none⟩), .pointer (some ⟨w0 + 1, 0, none⟩)]] w (Done (VSt W b A (FreeSt (w0 + 1 + 1) w0 (w0 + 1) seq c (A.freeN c seq 4))) w G (.int .i64 0))) := fun w G h =>
    visit_on hok hon c hc (fun j => FreeSt (w0 + 1 + 1) w0 (w0 + 1) seq c (A.freeN c seq j)) (fun j => freeSt_loc _ _ _ _ _ _) _ _ free_enters (fun j hj w G h => free_show (F := w0 + 1 + 1) (Q := w0) (B := w0 + 1) n1 n2 n3 hj hc h) h
  clear h hok hon n1 n2 n3
  have VH := hide VS0
  clear VS0
  go_enter Tryz.func122, Tryz.ntmps122
  go_upto_region 4 with fail
  obtain ⟨V3, hV3⟩ : ∃ V3, V3 = ((w.alloc (.cells #[.int .i64 seq] 3)).alloc (.cells #[.int .i64 0] 3)).alloc (.cells #[.bool false] 4) := ⟨_, rfl⟩
  have VS := hide (unhide VH V3 hV3).1
  have SG := hide (unhide VH V3 hV3).2
  rw [← hV3, ← hw0]
  clear VH hV3 hw0
  go_wp2_with fail
  refine (unhide CV _ _ (unhide VS)).mono ?_
  rintro e w1 ⟨rfl, h1, h2⟩
  have E1 := hide h1
  have E2 := hide h2
  clear h1 h2
  obtain ⟨C, g1, ⟨gC, gF, gQ, gB⟩, -, -⟩ := unhide E1
  have cF : w1.cell? ⟨w0 + 1 + 1, 0, none⟩ = some (.bool (A.freeN c seq 4).isSome) := by rw [cell_of_block gF]; rfl
  have cB : w1.cell? ⟨w0 + 1, 0, none⟩ = some (.int .i64 (firstV c (A.freeN c seq 4))) := by rw [cell_of_block gB]; rfl
  have HG := hide g1
  clear g1 gF gQ gB gC E1
  cases hf : A.freeN c seq 4 with
  | none =>
    rw [hf] at cF
    simp only [Option.isSome_none] at cF
    have HF := hide hf
    clear hf
    go_wp2_with fail
    go_ret2
    rw [unhide HF]
    exact ⟨rfl, (unhide HG).less (fun k hk => Or.inl hk), fun k hk => (unhide E2 k hk).trans (unhide SG k hk)⟩
  | some n =>
    rw [hf] at cF cB
    simp only [Option.isSome_some] at cF
    have HF := hide hf
    clear hf
    obtain ⟨ln, hln⟩ : ∃ ln, ln = firstV c (some n) := ⟨_, rfl⟩
    rw [← hln] at cB
    have HL := hide hln
    clear hln
    go_wp2_with fail
    go_ret2
    rw [unhide HF, ← unhide HL]
    exact ⟨rfl, (unhide HG).less (fun k hk => Or.inl hk), fun k hk => (unhide E2 k hk).trans (unhide SG k hk)⟩
theorem free_bad {W w : World} {G : Nat → Prop} {b : Nat} {A : Mm} (h : Has W w G b A) (core : Int) (hc : ¬ is8 core) (seq : Int) :
    Calls Tryz.prog 122 #[.pointer (some ⟨b, 0, none⟩), .int .i64 core, .int .i64 seq] w (After W w G b A (.tuple #[.int .i64 0, .int .i64 1])) := by
  have H1 := hide (h.alloc (.cells #[.int .i64 seq] 3))
  have H2 : Hid (Same G w (w.alloc (.cells #[.int .i64 seq] 3))) := fun k hk => Below.heap_alloc w _ k (h.lt k hk)
  clear h
  by_cases h0 : core < 0
  · go_enter Tryz.func122, Tryz.ntmps122
    go_wp2_with fail
    go_ret2
    exact ⟨rfl, (unhide H1).less (fun k hk => Or.inl hk), unhide H2⟩
  · have h8 : ¬ core < 8 := fun h => hc ⟨by omega, h⟩
    go_enter Tryz.func122, Tryz.ntmps122
    go_wp2_with fail
    go_ret2
    exact ⟨rfl, (unhide H1).less (fun k hk => Or.inl hk), unhide H2⟩
theorem Has.freeR {W w : World} {G : Nat → Prop} {b : Nat} {A : Mm} (h : Has W w G b A) (hok : A.ok 1000) (core seq : Int) :
    Calls Tryz.prog 122 #[.pointer (some ⟨b, 0, none⟩), .int .i64 core, .int .i64 seq] w (After W w G b A (.tuple #[.int .i64 (A.freeV core seq), .int .i64 (A.freeE core seq)])) := by
  unfold Mm.freeV Mm.freeE
  by_cases h8 : is8 core
  · obtain ⟨c, rfl⟩ : ∃ c : Nat, core = (c : Int) := ⟨core.toNat, by have := h8.1; omega⟩
    have hc : c < 8 := by have := h8.2; omega
    rw [if_pos h8]
    cases hon : A.on with
    | true =>
      rw [if_pos ⟨h8, rfl⟩, if_pos rfl, freeNE_eq]
      exact free_on h hok hon c hc seq
    | false =>
      rw [if_neg (by simp), if_neg (by simp)]
      exact free_off h hok hon c hc seq
  · rw [if_neg (fun hh => h8 hh.1), if_neg h8]
    exact free_bad h core h8 seq

end Go.Proofs.YtiafhcgaikapcaaGreat


/-
  rlog's put: a line stored, word by word, till the power goes off.
-/
namespace Go.Proofs.YtiafhcgaikapcaaGreat
open Go.ChangeShapes Go.WideShapes Go.ChangeAt Go.RowKit Go.Joins
set_option maxRecDepth 10000
set_option linter.unusedVariables false
set_option linter.unusedSimpArgs false

/-- A word of a line, by value. -/
theorem run_index_lineR (W : World) (cs : Array Value) (k : IntKind) (i : Nat) (h8 : i < 8) (v : Value) (h : cs[i]? = some v) :
    Sem.run Tryz.prog (Instr.index 83 (.agg cs) (.int k (i : Int))) W = .ok v W := by
  have h8' : (0 : Int) ≤ (i : Int) ∧ (i : Int) < 8 := by omega
  simp [Instr.index, run_underlying Tryz.underlying83, asIntOf, h8, go_sem, part, h]
theorem Has.putR {W w : World} {G : Nat → Prop} {b : Nat} {A : Mm} (h : Has W w G b A) (hok : A.ok 900) (z : Int) (k : Nat) (ez : z = (k : Int)) (hk : k < A.n) (l : List Int) (hl : l.length = 8) (hw : ∀ x ∈ l, (Lit.int .u64 x).wf = true) :
    Calls Tryz.prog 124 #[.pointer (some ⟨b, 0, none⟩), .int .i64 z, .agg (iv .u64 l)] w (After W w G b (A.puts k l 8) (.int .i64 (A.puts k l 8).onE)) := by
  subst ez
  have HK := hide hk
  have HO : Hid (∀ j, j ≤ 8 → (A.puts k l j).ok 1000) := fun j hj => ok_mono (ok_puts hok k l (getD_inU hw) j hj) (by omega)
  have HN : Hid (∀ j, (A.puts k l j).n = A.n) := puts_n A k l
  have O0 := hide ((Held.start (Has.stay W b A) h).alloc (Has.stay W b A) (.cells (iv .u64 l) 83))
  have s8 : (Tryz.prog.info? 83).map (·.size) = some (iv .u64 l).size := by rw [iv_size, hl]; exact size8
  have HA := hide (ok_mono hok (show 900 ≤ 1000 by decide))
  have HE0 : Hid (A.err = (A.puts k l 0).onE) := store_err A k 7 0
  have HE : Hid (∀ j, (A.puts k l j).err = (A.puts k l (j + 1)).onE) := fun j => store_err _ _ _ _
  have HX : Hid (∀ j, j < 8 → (iv .u64 l)[j]? = some (.int .u64 (l.getD j 0))) := fun j hj => iv_get _ _ _ (by omega)
  have H8 : Hid (∀ j, j ≤ 8 → (A.puts k l j).on = false → A.puts k l 8 = A.puts k l j) := fun j hj hf => by
    have := puts_off A k l j hf (8 - j)
    rwa [show j + (8 - j) = 8 by omega] at this
  have HS : Hid (∀ j, (A.puts k l j).store k j (l.getD j 0) = A.puts k l (j + 1)) := fun j => rfl
  have HS0 : Hid (A.store k 7 0 = A.puts k l 0) := rfl
  obtain ⟨PM, hPM⟩ : ∃ PM, PM = A.puts k l := ⟨_, rfl⟩
  rw [← hPM] at HO HN HE0 HE H8 HS HS0 ⊢
  clear h hok hw hk hl hPM
  generalize iv .u64 l = LV at *
  go_enter Tryz.func124, Tryz.ntmps124
  go_wp2_with fail
  refine ((unhide O0).st.store (unhide HA) k 7 k 7 rfl rfl (unhide HK) (by decide) 0).mono ?_
  rw [unhide HS0]
  rintro e w1 ⟨rfl, h1, h2⟩
  have O1 := hide ((unhide O0).call (St' := fun w G => Has W w G b (PM 0)) h1 h2)
  rw [unhide HE0]
  clear h1 h2 O0
  cases hon : (PM 0).on with
  | false =>
    have e8 := hide (unhide H8 0 (by omega) hon)
    have e9 := hide hon
    rw [onE_off hon]
    clear hon
    go_wp2_with fail
    go_ret
    rw [unhide e8, onE_off (unhide e9)]
    exact (unhide O1).done (Has.stay W b _) _
  | true =>
    have HN0 := hide hon
    rw [onE_on hon]
    clear hon
    have KL := hide ((unhide O1).at w.heap.size (.cells LV 83) (by simp))
    go_wp2_with (refine wpList_load_row rfl 83 _ rfl w.heap.size rfl _ _ _ _ (unhide KL) Tryz.underlying83 rfl s8 ?_)
    go_loopw [18] (fun c wr => ∃ j : Nat, j ≤ 8 ∧ c = .int .i64 j ∧ (PM j).on = true ∧ Held W (fun w G => Has W w G b (PM j)) w wr G [(w.heap.size, .cells LV 83)]) (fun c _ => 8 - (intOf c).toNat)
    case atStart => exact ⟨0, by omega, rfl, unhide HN0, unhide O1⟩
    case round =>
      clear O1 KL HN0
      obtain ⟨j, hj, rfl, hon, hh⟩ := hrel
      have HH := hide hh
      have HON := hide hon
      clear hh hon
      by_cases hlt : j < 8
      · have hlt' : (j : Int) < 8 := by omega
        have hix := fun W => run_index_lineR W LV .i64 j hlt _ (unhide HX j hlt)
        go_wp2_with fail
        refine ((unhide HH).st.store (unhide HO j (by omega)) k j k j rfl rfl (by rw [unhide HN]; exact unhide HK) hlt (l.getD j 0)).mono ?_
        rw [unhide HS]
        rintro e w2 ⟨rfl, h1, h2⟩
        have O2 := hide ((unhide HH).call (St' := fun w G => Has W w G b (PM (j + 1))) h1 h2)
        rw [unhide HE]
        clear h1 h2 HH hix
        cases hon : (PM (j + 1)).on with
        | false =>
          have e8 := hide (unhide H8 (j + 1) (by omega) hon)
          have e9 := hide hon
          rw [onE_off hon]
          clear hon
          go_wp2_with fail
          go_ret
          rw [unhide e8, onE_off (unhide e9)]
          exact (unhide O2).done (Has.stay W b _) _
        | true =>
          have HN0 := hide hon
          rw [onE_on hon]
          clear hon
          go_wp2_with fail
          go_roundw
          case rel => exact ⟨j + 1, by omega, by go_num, unhide HN0, unhide O2⟩
          case measure => simp [intOf]; omega
      · obtain rfl : j = 8 := by omega
        go_wp2_with fail
        go_ret
        rw [onE_on (unhide HON)]
        exact (unhide HH).done (Has.stay W b _) _

end Go.Proofs.YtiafhcgaikapcaaGreat


/-
  rlog's Append: for whatever core, number and record.
-/
namespace Go.Proofs.YtiafhcgaikapcaaGreat
open Go.ChangeShapes Go.WideShapes Go.ChangeAt Go.RowKit Go.Joins
set_option maxRecDepth 10000
set_option linter.unusedVariables false
set_option linter.unusedSimpArgs false

theorem app_full {W w : World} {G : Nat → Prop} {b : Nat} {A : Mm} (h : Has W w G b A) (hok : A.ok 900) (core seq : Int) (r : Rc) (hf : A.freeE core seq ≠ 0) :
    Calls Tryz.prog 62 #[.pointer (some ⟨b, 0, none⟩), .int .i64 core, .int .i64 seq, .agg (rv r)] w (After W w G b A (.int .i64 (A.freeE core seq))) := by
  have CF : Hid (∀ w G, Has W w G b A → Calls Tryz.prog 122 #[.pointer (some ⟨b, 0, none⟩), .int .i64 core, .int .i64 seq] w (After W w G b A (.tuple #[.int .i64 (A.freeV core seq), .int .i64 (A.freeE core seq)]))) := fun w G h => h.freeR (ok_mono hok (by decide)) core seq
  have s4 : (Tryz.prog.info? 126).map (·.size) = some (rv r).size := size4R
  have O0 := hide ((Held.start (Has.stay W b A) h).alloc (Has.stay W b A) (.cells (rv r) 126))
  generalize A.freeE core seq = E at *
  generalize A.freeV core seq = V at *
  have hE : (E == 0) = false := by simpa using hf
  clear h hok hf
  generalize rv r = RV at *
  go_enter Tryz.func62, Tryz.ntmps62
  go_wp2_with fail
  refine (unhide CF _ _ (unhide O0).st).mono ?_
  rintro e w1 ⟨rfl, h1, h2⟩
  have O1 := hide ((unhide O0).call (St' := fun w G => Has W w G b A) h1 h2)
  clear h1 h2 O0 CF
  go_wp2_with fail
  go_ret
  exact (unhide O1).done (Has.stay W b A) _
theorem app_bad {W w : World} {G : Nat → Prop} {b : Nat} {A : Mm} (h : Has W w G b A) (hok : A.ok 900) (core seq : Int) (r : Rc) (hr : r.ok) (hf : A.freeE core seq = 0) (hm : mayR r = false) :
    Calls Tryz.prog 62 #[.pointer (some ⟨b, 0, none⟩), .int .i64 core, .int .i64 seq, .agg (rv r)] w (After W w G b A (.int .i64 1)) := by
  have CF : Hid (∀ w G, Has W w G b A → Calls Tryz.prog 122 #[.pointer (some ⟨b, 0, none⟩), .int .i64 core, .int .i64 seq] w (After W w G b A (.tuple #[.int .i64 (A.freeV core seq), .int .i64 (A.freeE core seq)]))) := fun w G h => h.freeR (ok_mono hok (by decide)) core seq
  have s4 : (Tryz.prog.info? 126).map (·.size) = some (rv r).size := size4R
  have O0 := hide ((Held.start (Has.stay W b A) h).alloc (Has.stay W b A) (.cells (rv r) 126))
  rw [hf] at CF
  generalize A.freeV core seq = V at *
  have n8 := iv_new .u64 (lineRV r) 8 (lineRV_len _) 83
  have z8 : (iv .u64 (lineRV r)).size = 8 := by rw [iv_size, lineRV_len]
  have C1 := hide (lineR_any r hr)
  rw [lineRE_not r hm] at C1
  clear h hok hf hm
  generalize rv r = RV at *
  generalize iv .u64 (lineRV r) = LV at *
  go_enter Tryz.func62, Tryz.ntmps62
  go_wp2_with fail
  refine (unhide CF _ _ (unhide O0).st).mono ?_
  rintro e w1 ⟨rfl, h1, h2⟩
  have O1 := hide ((unhide O0).call (St' := fun w G => Has W w G b A) h1 h2)
  clear h1 h2 O0 CF
  have K1 := hide ((unhide O1).at w.heap.size (.cells RV 126) (by simp))
  go_wp2_with (refine wpList_load_row rfl 126 _ rfl w.heap.size rfl _ _ _ _ (unhide K1) Tryz.underlying126 rfl s4 ?_)
  refine (unhide C1 _).mono ?_
  rintro e w2 ⟨rfl, hb⟩
  have O2 := hide (((unhide O1).below (Has.stay W b A) hb).alloc (Has.stay W b A) (.cells LV 83))
  clear hb O1 K1 C1
  go_wp2_with fail
  go_ret
  exact (unhide O2).done (Has.stay W b A) _
theorem app_good {W w : World} {G : Nat → Prop} {b : Nat} {A : Mm} (h : Has W w G b A) (hok : A.ok 900) (core seq : Int) (r : Rc) (hr : r.ok) (hf : A.freeE core seq = 0) (hm : mayR r = true) (slot : Int) (hV : A.freeV core seq = slot) (k : Nat) (ek : slot = (k : Int)) (hk2 : k < 64) (P M : Mm) (E : Int) (hP : P = A.puts k (lineRV r) 8)
    (HOff : Hid (P.on = false → M = P ∧ E = 4)) (HBad : Hid (P.on = true → P.flushE core slot ≠ 0 → M = P.flushZ core slot ∧ E = P.flushE core slot)) (HGood : Hid (P.on = true → P.flushE core slot = 0 → M = (P.flushZ core slot).fenceZ core ∧ E = (P.flushZ core slot).fenceE core)) :
    Calls Tryz.prog 62 #[.pointer (some ⟨b, 0, none⟩), .int .i64 core, .int .i64 seq, .agg (rv r)] w (After W w G b M (.int .i64 E)) := by
  have CF : Hid (∀ w G, Has W w G b A → Calls Tryz.prog 122 #[.pointer (some ⟨b, 0, none⟩), .int .i64 core, .int .i64 seq] w (After W w G b A (.tuple #[.int .i64 (A.freeV core seq), .int .i64 (A.freeE core seq)]))) := fun w G h => h.freeR (ok_mono hok (by decide)) core seq
  have s4 : (Tryz.prog.info? 126).map (·.size) = some (rv r).size := size4R
  have O0 := hide ((Held.start (Has.stay W b A) h).alloc (Has.stay W b A) (.cells (rv r) 126))
  rw [hf, hV] at CF
  have n8 := iv_new .u64 (lineRV r) 8 (lineRV_len _) 83
  have z8 : (iv .u64 (lineRV r)).size = 8 := by rw [iv_size, lineRV_len]
  have s8 : (Tryz.prog.info? 83).map (·.size) = some (iv .u64 (lineRV r)).size := by rw [z8]; exact size8
  have C1 := hide (lineR_any r hr)
  rw [lineRE_may r hm] at C1
  have HP1 : Hid (P.ok 1000) := by rw [hP]; exact ok_mono (ok_puts hok k (lineRV r) (getD_inU (lineRV_wf r hr)) 8 (Nat.le_refl _)) (by omega)
  have HP2 : Hid ((P.flushZ core slot).ok 1000) := by rw [hP]; exact ok_mono (ok_flushZ (ok_puts hok k (lineRV r) (getD_inU (lineRV_wf r hr)) 8 (Nat.le_refl _)) core slot) (by omega)
  have HPut : Hid (∀ w G, Has W w G b A → Calls Tryz.prog 124 #[.pointer (some ⟨b, 0, none⟩), .int .i64 slot, .agg (iv .u64 (lineRV r))] w (After W w G b P (.int .i64 P.onE))) := fun w G h => by rw [hP]; exact h.putR hok slot k ek (by have := hok.1; omega) (lineRV r) (lineRV_len r) (lineRV_wf r hr)
  have HFl : Hid (∀ w G, Has W w G b P → Calls Tryz.prog 125 #[.pointer (some ⟨b, 0, none⟩), .int .i64 core, .int .i64 slot] w (After W w G b (P.flushZ core slot) (.int .i64 (P.flushE core slot)))) := fun w G h => h.flushZ (unhide HP1) core slot
  clear hok hP h hf hm hV ek hk2
  generalize rv r = RV at *
  generalize iv .u64 (lineRV r) = LV at *
  generalize P.flushZ core slot = Q at *
  generalize P.flushE core slot = FE at *
  go_enter Tryz.func62, Tryz.ntmps62
  go_wp2_with fail
  refine (unhide CF _ _ (unhide O0).st).mono ?_
  rintro e w1 ⟨rfl, h1, h2⟩
  have O1 := hide ((unhide O0).call (St' := fun w G => Has W w G b A) h1 h2)
  clear h1 h2 O0 CF
  have K1 := hide ((unhide O1).at w.heap.size (.cells RV 126) (by simp))
  go_wp2_with (refine wpList_load_row rfl 126 _ rfl w.heap.size rfl _ _ _ _ (unhide K1) Tryz.underlying126 rfl s4 ?_)
  refine (unhide C1 _).mono ?_
  rintro e w2 ⟨rfl, hb⟩
  have O2 := hide (((unhide O1).below (Has.stay W b A) hb).alloc (Has.stay W b A) (.cells LV 83))
  clear hb O1 K1 C1
  have KL := hide ((unhide O2).at w2.heap.size (.cells LV 83) (by simp))
  go_wp2_with (refine wpList_load_row rfl 83 _ rfl w2.heap.size rfl _ _ _ _ (unhide KL) Tryz.underlying83 rfl s8 ?_)
  refine (unhide HPut _ _ (unhide O2).st).mono ?_
  rintro e w3 ⟨rfl, h1, h2⟩
  have O3 := hide ((unhide O2).call (St' := fun w G => Has W w G b P) h1 h2)
  clear h1 h2 O2 KL HPut
  cases hon : P.on with
  | false =>
    have e8 := hide (unhide HOff hon)
    rw [onE_off hon]
    clear hon
    go_wp2_with fail
    go_ret
    obtain ⟨rfl, rfl⟩ := unhide e8
    exact (unhide O3).done (Has.stay W b _) _
  | true =>
    have HON := hide hon
    rw [onE_on hon]
    clear hon
    go_wp2_with fail
    refine (unhide HFl _ _ (unhide O3).st).mono ?_
    rintro e w4 ⟨rfl, h1, h2⟩
    have O4 := hide ((unhide O3).call (St' := fun w G => Has W w G b Q) h1 h2)
    clear h1 h2 O3
    by_cases hf : FE = 0
    · have e8 := hide (unhide HGood (unhide HON) hf)
      rw [hf]
      clear hf
      go_wp2_with fail
      refine ((unhide O4).st.fenceZ (unhide HP2) core).mono ?_
      rintro e w5 ⟨rfl, h1, h2⟩
      have O5 := hide ((unhide O4).call (St' := fun w G => Has W w G b (Q.fenceZ core)) h1 h2)
      clear h1 h2 O4
      go_wp2_with fail
      go_ret
      obtain ⟨rfl, rfl⟩ := unhide e8
      exact (unhide O5).done (Has.stay W b _) _
    · have e8 := hide (unhide HBad (unhide HON) hf)
      have hf' : (FE == 0) = false := by simpa using hf
      clear hf
      go_wp2_with fail
      go_ret
      obtain ⟨rfl, rfl⟩ := unhide e8
      exact (unhide O4).done (Has.stay W b _) _

theorem Has.appR {W w : World} {G : Nat → Prop} {b : Nat} {A : Mm} (h : Has W w G b A) (hok : A.ok 900) (core seq : Int) (r : Rc) (hr : r.ok) :
    Calls Tryz.prog 62 #[.pointer (some ⟨b, 0, none⟩), .int .i64 core, .int .i64 seq, .agg (rv r)] w (After W w G b (A.appZ core seq r) (.int .i64 (A.appE core seq r))) := by
  by_cases hf : A.freeE core seq = 0
  · cases hm : mayR r with
    | false =>
      rw [show A.appZ core seq r = A by simp [Mm.appZ, hf, hm], show A.appE core seq r = 1 by simp [Mm.appE, hf, hm]]
      exact app_bad h hok core seq r hr hf hm
    | true =>
      obtain ⟨h8, hon, n, hn, -, hv⟩ := freeV_some hf
      have hc : core.toNat < 8 := by have := h8.2; have := h8.1; omega
      refine app_good h hok core seq r hr hf hm _ rfl (A.freeV core seq).toNat (by rw [hv]; omega) (by rw [hv]; omega) (A.puts (A.freeV core seq).toNat (lineRV r) 8) _ _ rfl ?_ ?_ ?_
      · exact fun hon => ⟨by simp [Mm.appZ, hf, hm, Mm.wrZ, hon], by simp [Mm.appE, hf, hm, Mm.wrE, hon]⟩
      · exact fun hon hg => ⟨by simp [Mm.appZ, hf, hm, Mm.wrZ, hon, hg], by simp [Mm.appE, hf, hm, Mm.wrE, hon, hg]⟩
      · exact fun hon hg => ⟨by simp [Mm.appZ, hf, hm, Mm.wrZ, hon, hg], by simp [Mm.appE, hf, hm, Mm.wrE, hon, hg]⟩
  · rw [show A.appZ core seq r = A by simp [Mm.appZ, hf], show A.appE core seq r = A.freeE core seq by simp [Mm.appE, hf]]
    exact app_full h hok core seq r hf

end Go.Proofs.YtiafhcgaikapcaaGreat
