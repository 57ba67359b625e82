
/-
  A new worker; its superblock and slot.
-/
import Derived.Test.YtinhnnnehhlceaaZSet
import Derived.Test.YtinhnnnehhlceaaZCommit
namespace Go.Proofs.Ytinhnnnehhlceaa
open Go.ChangeShapes Go.WideShapes Go.ChangeAt Go.RowKit Go.Joins
set_option maxRecDepth 100000
set_option linter.unusedVariables false
set_option linter.unusedSimpArgs false

theorem wpList_build4v {P : Program} {ops : Array Oper} {rest : List Oper} {o : Oper} {a : Act} {w : World} {Q : Exit → Act → World → Prop} (hw : Region.wanted o (yielded ops a.tmps) = true) (t : TypeId) (x0 x1 x2 x3 : Operand) (ho : o.op = .build t #[(0, x0), (1, x1), (2, x2), (3, x3)])
    (u0 u1 u2 u3 : Value) (h0 : a.eval x0 = u0) (h1 : a.eval x1 = u1) (h2 : a.eval x2 = u2) (h3 : a.eval x3 = u3) (cs : Array Value) (hb : P.built t [(0, u0), (1, u1), (2, u2), (3, u3)] = some cs) (h : wpList P ops Q rest (a.put o.dst (.agg cs)) w) : wpList P ops Q (o :: rest) a w :=
  wpList_step fun K hK => by
    rw [if_pos hw]
    have h4 := run_build (P := P) w t #[(0, u0), (1, u1), (2, u2), (3, u3)] cs hb
    unfold Oper.wp execOp
    simp only [ho, Sem.run_bind]
    rw [show (#[((0 : Nat), x0), (1, x1), (2, x2), (3, x3)].map fun p => (p.1, a.eval p.2)) = #[(0, u0), (1, u1), (2, u2), (3, u3)] by simp [h0, h1, h2, h3], h4]
    exact hK _ _ h
def Wk.new (s : List Int) (sl : Int) : Wk := ⟨s, sl, 0, fun _ => ze, fun _ => 0, []⟩
theorem built_wk (m b : Nat) (a0 a1 a2 a3 sl : Int) :
    Try.prog.built 85 [(0, .pointer (some ⟨m, 0, none⟩)), (1, .pointer (some ⟨b, 0, none⟩)), (2, .agg (iv .i64 [a0, a1, a2, a3])), (3, .int .i64 sl)] = some (tab 164 (wkF m b (Wk.new [a0, a1, a2, a3] sl) (.slice none 0 0))) := by kernel_rfl
theorem wnew_any {W w : World} {m b : Nat} {St : Mm → World → (Nat → Prop) → Prop} {S : Sto} {A : Mm} {G : Nat → Prop} (M : MemL W m St) (h : SHas W m b St S A w G) (a0 a1 a2 a3 sl : Int) :
    Calls Try.prog 24 #[.pointer (some ⟨m, 0, none⟩), .pointer (some ⟨b, 0, none⟩), .agg (iv .i64 [a0, a1, a2, a3]), .int .i64 sl] w fun e w' => ∃ x, e = .returned (.pointer (some ⟨x, 0, none⟩)) ∧ WHas W m b x St S A (Wk.new [a0, a1, a2, a3] sl) w' G ∧ Same G w w' := by
  have T0 := hide (SHas.stay M b S A)
  have O0 := hide ((Held.start (unhide T0) h).alloc (unhide T0) (.cells (iv .i64 [a0, a1, a2, a3]) 61))
  have B := hide (built_wk m b a0 a1 a2 a3 sl)
  have s4 := s4_sup [a0, a1, a2, a3] rfl
  have hK : Hid (Wk.new [a0, a1, a2, a3] sl = Wk.new [a0, a1, a2, a3] sl) := rfl
  clear h
  generalize hKK : Wk.new [a0, a1, a2, a3] sl = K at *
  have hl : Hid (K.l = []) := by show _ = _; rw [← hKK]; rfl
  clear hKK hK
  generalize iv .i64 [a0, a1, a2, a3] = SV at *
  generalize hC : tab 164 (wkF m b K (.slice none 0 0)) = CV at *
  have HC := hide hC
  clear hC
  go_enter Try.func24, Try.ntmps24
  go_upto_region 1 with fail
  obtain ⟨g, hg⟩ : ∃ g, g = w.heap.size := ⟨_, rfl⟩
  rw [← hg] at O0 ⊢
  clear hg
  generalize w.alloc (.cells SV 61) = w1 at *
  have K1 := hide ((unhide O0).at g (.cells SV 61) (by simp))
  have O1 := hide (((unhide O0).alloc (unhide T0) (.cells CV 85)).less (unhide T0) (L' := [(w1.heap.size, .cells CV 85)]) (by simp))
  go_wp2_with (first | (with_reducible refine wpList_load_row (by with_unfolding_all rfl) 61 _ (by with_unfolding_all rfl) g (by with_unfolding_all rfl) _ _ _ _ (unhide K1) Try.underlying61 (by with_unfolding_all rfl) s4 ?_) | (with_reducible refine wpList_build4v (by with_unfolding_all rfl) 85 (.tmp 9) (.tmp 10) (.tmp 11) (.tmp 12) (by with_unfolding_all rfl) (.pointer (some ⟨m, 0, none⟩)) (.pointer (some ⟨b, 0, none⟩)) (.agg SV) (.int .i64 sl) (by with_unfolding_all rfl) (by with_unfolding_all rfl) (by with_unfolding_all rfl) (by with_unfolding_all rfl) CV (unhide B) ?_))
  go_ret
  obtain ⟨q1, q2, q3⟩ := (unhide O1).2.1 _ List.mem_cons_self
  refine ⟨w1.heap.size, rfl, ⟨.slice none 0 0, ⟨?_, Or.inl ⟨unhide hl, none, 0, rfl⟩, (SHas.stay M b S A).ls _ _ _ (unhide O1).1 (fun k hk => ?_), q3, q2, fun k e => by simp [Value.ownBlock] at e⟩⟩, (unhide O1).2.2⟩
  · have h9 := heap_new w1 (.cells CV 85)
    rw [← unhide HC] at h9 ⊢
    exact Blk.of_tab h9
  · rcases hk with hk | hk | hk
    · exact Or.inl hk
    · exact Or.inr ⟨_, by rw [hk]; exact List.mem_cons_self⟩
    · simp [Value.ownBlock] at hk
theorem wsuper_any {W w : World} {m b x : Nat} {St : Mm → World → (Nat → Prop) → Prop} {S : Sto} {A : Mm} {K : Wk} {sl : Value} {G : Nat → Prop} (M : MemL W m St) (h : WH W m b x St S A K sl w G) (hb : K.b.length = 4) :
    Calls Try.prog 18 #[.pointer (some ⟨x, 0, none⟩)] w fun e w' => e = .returned (.tuple #[.agg (iv .i64 K.b), .int .i64 K.sl]) ∧ Below w.heap.size w w' := by
  have RB : Hid (∀ w', Below w.heap.size w w' → w'.rangeAt x 2 (iv .i64 K.b).toList ∧ w'.cell? ⟨x, 6, none⟩ = some (.int .i64 K.sl)) := fun w' hb' => by
    have := (WH.stay M b x S A K sl).bl _ _ _ h (Keeps.of_below hb')
    exact ⟨this.rep.rb hb, this.rep.csl⟩
  have O1 := hide ((Own.start w).alloc (.cells #[.int .i64 0, .int .i64 0, .int .i64 0, .int .i64 0] 61))
  have s4 := s4_sup K.b hb
  have s4l : (Try.prog.info? 61).map (·.size) = some (iv .i64 K.b).toList.length := by rw [Array.length_toList]; exact s4
  have X4 := hide (iv_one .i64 K.b)
  have SZ : Hid ((#[.int .i64 0, .int .i64 0, .int .i64 0, .int .i64 0] : Array Value).size = (iv .i64 K.b).size) := by show _ = _; rw [iv_size, hb]; rfl
  clear h hb
  generalize iv .i64 K.b = BV at *
  go_enter Try.func18, Try.ntmps18
  go_upto_region 1 with fail
  obtain ⟨g, hg⟩ : ∃ g, g = w.heap.size := ⟨_, rfl⟩
  rw [← hg] at O1 ⊢
  have HG : Hid (w.heap.size ≤ g) := by show _ ≤ _; omega
  clear hg
  generalize w.alloc (.cells #[.int .i64 0, .int .i64 0, .int .i64 0, .int .i64 0] 61) = w1 at *
  have O2 := hide (unhide O1).drew
  refine wp_region_noPanic ?_
  refine wp_region_held_drew (S := fun w' => Below w.heap.size w w') (by kernel_rfl) (unhide O2).1 (fun hHeld => ?_)
  clear O1
  generalize w1.drew = w2 at *
  refine take_at 0 4 (v := ?_) rfl rfl (by kernel_rfl) (by kernel_rfl) (by kernel_rfl) (Or.inl ⟨by rfl, ?_⟩) hHeld ?_
  rotate_left
  · intro w hSw; go_simp; with_reducible rfl
  simp only [Act.put, List.setIfInBounds_toArray, List.set_cons_zero, List.set_cons_succ]
  refine take_at 1 5 (v := ?_) rfl rfl (by kernel_rfl) (by kernel_rfl) (by kernel_rfl) (Or.inl ⟨by rfl, ?_⟩) hHeld ?_
  rotate_left
  · intro w hSw; go_simp; with_reducible rfl
  simp only [Act.put, List.setIfInBounds_toArray, List.set_cons_zero, List.set_cons_succ]
  refine take_at 2 6 (v := ?_) rfl rfl (by kernel_rfl) (by kernel_rfl) (by kernel_rfl) (Or.inl ⟨by rfl, ?_⟩) hHeld ?_
  rotate_left
  · intro w hSw; go_simp; with_reducible rfl
  simp only [Act.put, List.setIfInBounds_toArray, List.set_cons_zero, List.set_cons_succ]
  refine take_at 3 7 rfl rfl (by kernel_rfl) (by kernel_rfl) (by kernel_rfl) (yieldsIf_load_mid (by rfl) 61 _ rfl x 2 rfl BV.toList _ (fun w' h => (unhide RB w' h).1) Try.underlying61 rfl s4l) hHeld ?_
  simp only [Act.put, List.setIfInBounds_toArray, List.set_cons_zero, List.set_cons_succ]
  refine take_at 4 8 (v := ?_) rfl rfl (by kernel_rfl) (by kernel_rfl) (by kernel_rfl) (Or.inl ⟨by rfl, ?_⟩) hHeld ?_
  rotate_left
  · intro w hSw; go_simp; with_reducible rfl
  simp only [Act.put, List.setIfInBounds_toArray, List.set_cons_zero, List.set_cons_succ]
  refine take_at 5 9 (v := ?_) rfl rfl (by kernel_rfl) (by kernel_rfl) (by kernel_rfl) (Or.inl ⟨by rfl, ?_⟩) hHeld ?_
  rotate_left
  · intro w hSw; go_simp; with_reducible rfl
  simp only [Act.put, List.setIfInBounds_toArray, List.set_cons_zero, List.set_cons_succ]
  refine take_at 6 10 (v := ?_) rfl rfl (by kernel_rfl) (by kernel_rfl) (by kernel_rfl) (Or.inl ⟨by rfl, ?_⟩) hHeld ?_
  rotate_left
  · intro w hSw; go_simp; with_reducible rfl
  simp only [Act.put, List.setIfInBounds_toArray, List.set_cons_zero, List.set_cons_succ]
  refine take_at 7 11 (v := ?_) rfl rfl (by kernel_rfl) (by kernel_rfl) (by kernel_rfl) (Or.inl ⟨by rfl, ?_⟩) hHeld ?_
  rotate_left
  · intro w hSw; have c := (unhide RB w hSw).2; go_simp; with_reducible rfl
  simp only [Act.put, List.setIfInBounds_toArray, List.set_cons_zero, List.set_cons_succ]
  have K1 := (unhide O2).at g (.cells #[.int .i64 0, .int .i64 0, .int .i64 0, .int .i64 0] 61) (by simp)
  refine wpAnyH_ready (rs := [8]) (by kernel_rfl) (by simp) ?_
  refine AllReadyH.cons rfl (fun K2 hK => ?_) AllReadyH.nil
  refine (if_pos (by rfl)).mpr ?_
  refine wp_store_row 61 (.tmp 2) (.tmp 7) rfl g BV rfl rfl _ _ K1 s4 (unhide SZ) (unhide X4) ?_
  have O3 := hide ((unhide O2).row g BV 61 (0, 0) #[.int .i64 0, .int .i64 0, .int .i64 0, .int .i64 0] K1 (unhide HG))
  clear hHeld K1
  refine hK.out _ _ (unhide O3).1 (fun hHeld => ?_)
  clear hK K2 O2
  generalize w2.setRow g BV = w3 at *
  refine take_at 9 3 (v := ?_) rfl rfl (by kernel_rfl) (by kernel_rfl) (by kernel_rfl) (Or.inl ⟨by rfl, ?_⟩) hHeld ?_
  rotate_left
  · intro w hSw; go_simp; with_reducible rfl
  simp only [Act.put, List.setIfInBounds_toArray, List.set_cons_zero, List.set_cons_succ]
  refine wpAnyH_done (by kernel_rfl) ?_ _
  refine NoPanic.normal ?_
  have KG := hide ((unhide O3).at g (.cells BV 61) (by simp))
  go_wp2_with fail
  exact bodyPost_ret (v := .tuple #[.agg BV, .int .i64 K.sl]) (results_two Try.results18 _ _ g 61 BV (0, 0) _ _ rfl rfl (unhide KG) Try.underlying61 rfl s4) rfl ⟨rfl, (unhide O3).1⟩

end Go.Proofs.Ytinhnnnehhlceaa
