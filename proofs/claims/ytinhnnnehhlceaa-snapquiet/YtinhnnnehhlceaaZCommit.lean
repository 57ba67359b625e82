
/-
  A worker's last step: the superblock is written, and then counts.
-/
import Derived.Test.YtinhnnnehhlceaaZHas
namespace Go.Proofs.Ytinhnnnehhlceaa
open Go.ChangeShapes Go.WideShapes Go.ChangeAt Go.RowKit Go.Joins
set_option maxRecDepth 10000
set_option linter.unusedVariables false
set_option linter.unusedSimpArgs false

theorem yieldsIf_build4 {P : Program} {ops : Array Oper} {S : World → Prop} {op : Oper} {a : Act} (hw : Region.wanted op (yielded ops a.tmps) = true) (t : TypeId) (x0 x1 x2 x3 : Operand) (ho : op.op = .build t #[(0, x0), (1, x1), (2, x2), (3, x3)])
    (u0 u1 u2 u3 : Value) (h0 : a.eval x0 = u0) (h1 : a.eval x1 = u1) (h2 : a.eval x2 = u2) (h3 : a.eval x3 = u3) (cs : Array Value) (hb : P.built t [(0, u0), (1, u1), (2, u2), (3, u3)] = some cs) : YieldsIf P ops S op (.agg cs) a :=
  Or.inl ⟨hw, fun w _ => by
    have h := run_build (P := P) w t #[(0, u0), (1, u1), (2, u2), (3, u3)] cs hb
    unfold execOp
    simp [ho, h0, h1, h2, h3, Sem.run_bind, h]⟩
theorem built_sup (a b c d : Int) : Try.prog.built 61 [(0, .int .i64 a), (1, .int .i64 b), (2, .int .i64 c), (3, .int .i64 d)] = some (iv .i64 [a, b, c, d]) := by kernel_rfl
theorem s4_sup (l : List Int) (h : l.length = 4) : (Try.prog.info? 61).map (·.size) = some (iv .i64 l).size := by rw [iv_size, h]; kernel_rfl
theorem Wk.next_len (K : Wk) : K.next.length = 4 := rfl
theorem WH.setB {W w : World} {m b x : Nat} {St : Mm → World → (Nat → Prop) → Prop} {S : Sto} {A : Mm} {K : Wk} {sl : Value} {G : Nat → Prop} (M : MemL W m St) (h : WH W m b x St S A K sl w G) (s : List Int) (hs : s.length = 4) (z : Int) :
    WH W m b x St S A ⟨s, z, K.q, K.k, K.d, K.l⟩ sl ((w.setCells x 2 (iv .i64 s).toList).setCell ⟨x, 6, none⟩ (.int .i64 z)) G ∧ Same G w ((w.setCells x 2 (iv .i64 s).toList).setCell ⟨x, 6, none⟩ (.int .i64 z)) := by
  have hk : Keeps (· = x) w ((w.setCells x 2 (iv .i64 s).toList).setCell ⟨x, 6, none⟩ (.int .i64 z)) := (keeps_cells x (iv .i64 s).toList w 2).trans' (Keeps.setCell (F := (· = x)) (p := ⟨x, 6, none⟩) (Keeps.refl _ _) rfl _)
  refine ⟨⟨h.rep.putB s hs z, h.row.same (fun k e => hk.block k (h.slt M k e) (h.ns k e).2.2), (SHas.stay M b S A).ow _ _ _ x h.st (Or.inr (Or.inl rfl)) h.newx hk, h.nx, h.newx, h.ns⟩, fun k hg => ?_⟩
  exact hk.block k ((SHas.stay M b S A).lt _ _ h.st k (Or.inl hg)) (fun e => h.nx (e ▸ hg))

/-- What commit makes. -/
def Wk.comE (K : Wk) (S : Sto) (A : Mm) : Int := if A.writeE 0 (1 - K.sl) K.next = 0 then S.doneE else A.writeE 0 (1 - K.sl) K.next
def Wk.comS (K : Wk) (S : Sto) (A : Mm) : Sto := if A.writeE 0 (1 - K.sl) K.next = 0 then S.commitS K.d else S
def Wk.comK (K : Wk) (S : Sto) (A : Mm) : Wk := if A.writeE 0 (1 - K.sl) K.next = 0 ∧ S.doneE = 0 then ⟨K.next, 1 - K.sl, K.q, K.k, K.d, K.l⟩ else K

set_option maxHeartbeats 8000000 in
theorem wcommit_any {W w : World} {m b x : Nat} {St : Mm → World → (Nat → Prop) → Prop} {S : Sto} {A : Mm} {K : Wk} {sl : Value} {G : Nat → Prop} (M : MemX W m St) (h : WH W m b x St S A K sl w G) (hS : S.ok) (hA : A.ok 900) (hg : 0 ≤ K.gen ∧ K.gen ≤ 1099511627776) (hsl : 0 ≤ K.sl ∧ K.sl ≤ 1) (z : Int) :
    Calls Try.prog 55 #[.pointer (some ⟨x, 0, none⟩), .int .i64 z] w (Done (WH W m b x St (K.comS S A) (A.writeZ 0 (1 - K.sl) K.next) (K.comK S A) sl) w G (.int .i64 (K.comE S A))) := by
  have T0 := hide (WH.stay M.toMemL b x S A K sl)
  have O0 := hide (Held.start (unhide T0) h)
  have CW := hide (fun (w' : World) (G' : Nat → Prop) (h' : SHas W m b St S A w' G') => h'.write M hA 0 (1 - K.sl) K.next K.next_len)
  have CC := hide (fun (A' : Mm) (w' : World) (G' : Nat → Prop) (h' : SHas W m b St S A' w' G') => commit_any M.toMemL h' hS K.d)
  have eK1 : Hid (A.writeE 0 (1 - K.sl) K.next ≠ 0 → K.comE S A = A.writeE 0 (1 - K.sl) K.next ∧ K.comS S A = S ∧ K.comK S A = K) := fun q => by
    unfold Wk.comE Wk.comS Wk.comK
    rw [if_neg q, if_neg q, if_neg (fun c => q c.1)]; exact ⟨rfl, rfl, rfl⟩
  have eK2 : Hid (A.writeE 0 (1 - K.sl) K.next = 0 → K.comE S A = S.doneE ∧ K.comS S A = S.commitS K.d ∧ (S.doneE = 0 → K.comK S A = ⟨K.next, 1 - K.sl, K.q, K.k, K.d, K.l⟩) ∧ (S.doneE ≠ 0 → K.comK S A = K)) := fun q => by
    unfold Wk.comE Wk.comS Wk.comK
    rw [if_pos q, if_pos q]
    exact ⟨rfl, rfl, fun d => if_pos ⟨q, d⟩, fun d => if_neg (fun c => d c.2)⟩
  have CE : Hid (∀ w', WRepZ m b K sl w' x → w'.cell? ⟨x, 2, none⟩ = some (.int .i64 K.gen) ∧ w'.cell? ⟨x, 162, none⟩ = some (.int .i64 (K.d 7)) ∧ w'.cell? ⟨x, 7, none⟩ = some (.int .i64 K.q) ∧ w'.cell? ⟨x, 5, none⟩ = some (.int .i64 (K.b.getD 3 0))) := fun w' r => ⟨r.cg, r.cd 7 (by decide), r.cq, r.c3⟩
  have CSL : Hid (∀ w', WRepZ m b K sl w' x → w'.cell? ⟨x, 6, none⟩ = some (.int .i64 K.sl)) := fun w' r => r.csl
  have BS := hide (built_sup (K.gen + 1) (K.d 7) K.q (K.b.getD 3 0))
  have NX : Hid (K.next = [K.gen + 1, K.d 7, K.q, K.b.getD 3 0]) := rfl
  rw [← unhide NX] at BS
  have s4 := s4_sup K.next K.next_len
  have X4 := hide (iv_one .i64 K.next)
  have SZ : Hid ((#[.int .i64 0, .int .i64 0, .int .i64 0, .int .i64 0] : Array Value).size = (iv .i64 K.next).size) := by show _ = _; rw [iv_size]; rfl
  have hg1 : In64 (K.gen + 1) := ⟨by omega, by omega⟩
  have hw : IntKind.i64.wrap (K.gen + 1) = K.gen + 1 := by simp [IntKind.wrap, IntKind.signed, IntKind.bits]; omega
  have hw2 : wrap64 (1 - K.sl) = 1 - K.sl := by simp only [wrap64]; omega
  clear h hS hA
  generalize hNV : iv .i64 K.next = NV at *
  generalize K.b.getD 3 0 = cores at *
  generalize K.gen = gen at *
  go_enter Try.func55, Try.ntmps55
  go_upto_region 1 with fail
  have O1 := hide ((unhide O0).drew (unhide T0))
  refine wp_region_noPanic ?_
  refine wp_region_held_drew (S := fun w' => w'.cell? ⟨x, 2, none⟩ = some (.int .i64 gen) ∧ w'.cell? ⟨x, 162, none⟩ = some (.int .i64 (K.d 7)) ∧ w'.cell? ⟨x, 7, none⟩ = some (.int .i64 K.q) ∧ w'.cell? ⟨x, 5, none⟩ = some (.int .i64 cores)) (by kernel_rfl) (unhide CE _ (unhide O1).st.rep) (fun hHeld => ?_)
  clear O0
  generalize w.drew = w1 at *
  refine take_at 0 9 (v := ?_) rfl rfl (by kernel_rfl) (by kernel_rfl) (by kernel_rfl) (Or.inl ⟨by rfl, ?_⟩) hHeld ?_
  rotate_left
  · intro w hSw; go_simp; with_reducible rfl
  simp only [Act.put, List.setIfInBounds_toArray, List.set_cons_zero, List.set_cons_succ]
  refine take_at 1 10 (v := ?_) rfl rfl (by kernel_rfl) (by kernel_rfl) (by kernel_rfl) (Or.inl ⟨by rfl, ?_⟩) hHeld ?_
  rotate_left
  · intro w hSw; go_simp; with_reducible rfl
  simp only [Act.put, List.setIfInBounds_toArray, List.set_cons_zero, List.set_cons_succ]
  refine take_at 2 11 (v := ?_) rfl rfl (by kernel_rfl) (by kernel_rfl) (by kernel_rfl) (Or.inl ⟨by rfl, ?_⟩) hHeld ?_
  rotate_left
  · intro w hSw; go_simp; with_reducible rfl
  simp only [Act.put, List.setIfInBounds_toArray, List.set_cons_zero, List.set_cons_succ]
  refine take_at 3 12 (v := ?_) rfl rfl (by kernel_rfl) (by kernel_rfl) (by kernel_rfl) (Or.inl ⟨by rfl, ?_⟩) hHeld ?_
  rotate_left
  · intro w hSw; go_simp; with_reducible rfl
  simp only [Act.put, List.setIfInBounds_toArray, List.set_cons_zero, List.set_cons_succ]
  refine take_at 4 13 (v := ?_) rfl rfl (by kernel_rfl) (by kernel_rfl) (by kernel_rfl) (Or.inl ⟨by rfl, ?_⟩) hHeld ?_
  rotate_left
  · intro w hSw; have c := hSw.1; go_simp; with_reducible rfl
  simp only [Act.put, List.setIfInBounds_toArray, List.set_cons_zero, List.set_cons_succ]
  refine take_at 5 14 (v := .int .i64 (gen + 1)) rfl rfl (by kernel_rfl) (by kernel_rfl) (by kernel_rfl) (Or.inl ⟨by rfl, ?_⟩) hHeld ?_
  · intro w hSw
    go_simp
    first | done | rw [hw] | simp [hw]
  simp only [Act.put, List.setIfInBounds_toArray, List.set_cons_zero, List.set_cons_succ]
  refine take_at 6 15 (v := ?_) rfl rfl (by kernel_rfl) (by kernel_rfl) (by kernel_rfl) (Or.inl ⟨by rfl, ?_⟩) hHeld ?_
  rotate_left
  · intro w hSw; go_simp; with_reducible rfl
  simp only [Act.put, List.setIfInBounds_toArray, List.set_cons_zero, List.set_cons_succ]
  refine take_at 7 16 (v := ?_) rfl rfl (by kernel_rfl) (by kernel_rfl) (by kernel_rfl) (Or.inl ⟨by rfl, ?_⟩) hHeld ?_
  rotate_left
  · intro w hSw; go_simp; with_reducible rfl
  simp only [Act.put, List.setIfInBounds_toArray, List.set_cons_zero, List.set_cons_succ]
  refine take_at 8 17 (v := ?_) rfl rfl (by kernel_rfl) (by kernel_rfl) (by kernel_rfl) (Or.inl ⟨by rfl, ?_⟩) hHeld ?_
  rotate_left
  · intro w hSw; go_simp; with_reducible rfl
  simp only [Act.put, List.setIfInBounds_toArray, List.set_cons_zero, List.set_cons_succ]
  refine take_at 9 18 (v := ?_) rfl rfl (by kernel_rfl) (by kernel_rfl) (by kernel_rfl) (Or.inl ⟨by rfl, ?_⟩) hHeld ?_
  rotate_left
  · intro w hSw; go_simp; with_reducible rfl
  simp only [Act.put, List.setIfInBounds_toArray, List.set_cons_zero, List.set_cons_succ]
  refine take_at 10 19 (v := .pointer (some ⟨x, 162, none⟩)) rfl rfl (by kernel_rfl) (by kernel_rfl) (by kernel_rfl) (Or.inl ⟨by rfl, ?_⟩) hHeld ?_
  · intro w hSw
    first | (go_simp; done) | (go_simp; rfl)
  simp only [Act.put, List.setIfInBounds_toArray, List.set_cons_zero, List.set_cons_succ]
  refine take_at 11 20 (v := ?_) rfl rfl (by kernel_rfl) (by kernel_rfl) (by kernel_rfl) (Or.inl ⟨by rfl, ?_⟩) hHeld ?_
  rotate_left
  · intro w hSw; have c := hSw.2.1; go_simp; with_reducible rfl
  simp only [Act.put, List.setIfInBounds_toArray, List.set_cons_zero, List.set_cons_succ]
  refine take_at 12 21 (v := ?_) rfl rfl (by kernel_rfl) (by kernel_rfl) (by kernel_rfl) (Or.inl ⟨by rfl, ?_⟩) hHeld ?_
  rotate_left
  · intro w hSw; go_simp; with_reducible rfl
  simp only [Act.put, List.setIfInBounds_toArray, List.set_cons_zero, List.set_cons_succ]
  refine take_at 13 22 (v := ?_) rfl rfl (by kernel_rfl) (by kernel_rfl) (by kernel_rfl) (Or.inl ⟨by rfl, ?_⟩) hHeld ?_
  rotate_left
  · intro w hSw; go_simp; with_reducible rfl
  simp only [Act.put, List.setIfInBounds_toArray, List.set_cons_zero, List.set_cons_succ]
  refine take_at 14 23 (v := ?_) rfl rfl (by kernel_rfl) (by kernel_rfl) (by kernel_rfl) (Or.inl ⟨by rfl, ?_⟩) hHeld ?_
  rotate_left
  · intro w hSw; go_simp; with_reducible rfl
  simp only [Act.put, List.setIfInBounds_toArray, List.set_cons_zero, List.set_cons_succ]
  refine take_at 15 24 (v := ?_) rfl rfl (by kernel_rfl) (by kernel_rfl) (by kernel_rfl) (Or.inl ⟨by rfl, ?_⟩) hHeld ?_
  rotate_left
  · intro w hSw; go_simp; with_reducible rfl
  simp only [Act.put, List.setIfInBounds_toArray, List.set_cons_zero, List.set_cons_succ]
  refine take_at 16 25 (v := ?_) rfl rfl (by kernel_rfl) (by kernel_rfl) (by kernel_rfl) (Or.inl ⟨by rfl, ?_⟩) hHeld ?_
  rotate_left
  · intro w hSw; have c := hSw.2.2.1; go_simp; with_reducible rfl
  simp only [Act.put, List.setIfInBounds_toArray, List.set_cons_zero, List.set_cons_succ]
  refine take_at 17 26 (v := ?_) rfl rfl (by kernel_rfl) (by kernel_rfl) (by kernel_rfl) (Or.inl ⟨by rfl, ?_⟩) hHeld ?_
  rotate_left
  · intro w hSw; go_simp; with_reducible rfl
  simp only [Act.put, List.setIfInBounds_toArray, List.set_cons_zero, List.set_cons_succ]
  refine take_at 18 27 (v := ?_) rfl rfl (by kernel_rfl) (by kernel_rfl) (by kernel_rfl) (Or.inl ⟨by rfl, ?_⟩) hHeld ?_
  rotate_left
  · intro w hSw; go_simp; with_reducible rfl
  simp only [Act.put, List.setIfInBounds_toArray, List.set_cons_zero, List.set_cons_succ]
  refine take_at 19 28 (v := ?_) rfl rfl (by kernel_rfl) (by kernel_rfl) (by kernel_rfl) (Or.inl ⟨by rfl, ?_⟩) hHeld ?_
  rotate_left
  · intro w hSw; go_simp; with_reducible rfl
  simp only [Act.put, List.setIfInBounds_toArray, List.set_cons_zero, List.set_cons_succ]
  refine take_at 20 29 (v := ?_) rfl rfl (by kernel_rfl) (by kernel_rfl) (by kernel_rfl) (Or.inl ⟨by rfl, ?_⟩) hHeld ?_
  rotate_left
  · intro w hSw; go_simp; with_reducible rfl
  simp only [Act.put, List.setIfInBounds_toArray, List.set_cons_zero, List.set_cons_succ]
  refine take_at 21 30 (v := ?_) rfl rfl (by kernel_rfl) (by kernel_rfl) (by kernel_rfl) (Or.inl ⟨by rfl, ?_⟩) hHeld ?_
  rotate_left
  · intro w hSw; have c := hSw.2.2.2; go_simp; with_reducible rfl
  simp only [Act.put, List.setIfInBounds_toArray, List.set_cons_zero, List.set_cons_succ]
  refine take_at 22 31 rfl rfl (by kernel_rfl) (by kernel_rfl) (by kernel_rfl) (yieldsIf_build4 (by rfl) 61 (.tmp 14) (.tmp 20) (.tmp 25) (.tmp 30) rfl (.int .i64 (gen + 1)) (.int .i64 (K.d 7)) (.int .i64 K.q) (.int .i64 cores) rfl rfl rfl rfl _ (unhide BS)) hHeld ?_
  simp only [Act.put, List.setIfInBounds_toArray, List.set_cons_zero, List.set_cons_succ]
  refine wpAnyH_ready (rs := [23]) (by kernel_rfl) (by simp) ?_
  refine AllReadyH.cons rfl (fun K2 hK => ?_) AllReadyH.nil
  go_simp
  obtain ⟨g, hgg⟩ : ∃ g, g = w1.heap.size := ⟨_, rfl⟩
  have O2 := hide ((unhide O1).alloc (unhide T0) (.cells #[.int .i64 0, .int .i64 0, .int .i64 0, .int .i64 0] 61))
  rw [← hgg] at O2 ⊢
  clear hgg O1
  generalize w1.alloc (.cells #[.int .i64 0, .int .i64 0, .int .i64 0, .int .i64 0] 61) = w2 at *
  refine hK.out _ _ (unhide CE _ (unhide O2).st.rep) (fun hNew => ?_)
  clear hK K2 hHeld
  refine wpAnyH_ready (rs := [24]) (by kernel_rfl) (by simp) ?_
  refine AllReadyH.cons rfl (fun K2 hK => ?_) AllReadyH.nil
  refine (if_pos (by rfl)).mpr ?_
  refine wp_store_row 61 (.tmp 5) (.tmp 31) rfl g NV rfl rfl _ _ ((unhide O2).at g (.cells #[.int .i64 0, .int .i64 0, .int .i64 0, .int .i64 0] 61) (by simp)) s4 (unhide SZ) (unhide X4) ?_
  have O3 := hide ((unhide O2).rowHd (unhide T0) (by simp) NV)
  refine hK.out _ _ (unhide CE _ (unhide O3).st.rep) (fun hHeld => ?_)
  clear hK K2 hNew hHeld O2
  generalize w2.setRow g NV = w3 at *
  refine wpAnyH_done (by kernel_rfl) ?_ _
  refine NoPanic.normal ?_
  have csl := unhide CSL _ (unhide O3).st.rep
  go_upto_region 3 with fail
  clear csl CE
  have O4 := hide ((unhide O3).drew (unhide T0))
  have RG : Hid (∀ (S' : World → (Nat → Prop) → Prop) (wx : World), Held W S' w wx G [(g, .cells NV 61)] → wx.rangeAt g 0 NV.toList) := fun S' wx O j v hv => by
    rw [cell_of_block (O.at g (.cells NV 61) (by simp)), Nat.zero_add, ← Array.getElem?_toList]; exact hv
  have s4l : (Try.prog.info? 61).map (·.size) = some NV.toList.length := by rw [Array.length_toList]; exact s4
  refine wp_region_noPanic ?_
  refine wp_region_held_drew (S := fun w' => w'.cell? ⟨x, 0, none⟩ = some (.pointer (some ⟨m, 0, none⟩)) ∧ w'.rangeAt g 0 NV.toList) (by kernel_rfl) ⟨(unhide O4).st.rep.pm, unhide RG _ _ (unhide O4)⟩ (fun hHeld => ?_)
  clear O3
  generalize w3.drew = w4 at *
  refine take_at 0 37 (v := ?_) rfl rfl (by kernel_rfl) (by kernel_rfl) (by kernel_rfl) (Or.inl ⟨by rfl, ?_⟩) hHeld ?_
  rotate_left
  · intro w hSw; go_simp; with_reducible rfl
  simp only [Act.put, List.setIfInBounds_toArray, List.set_cons_zero, List.set_cons_succ]
  refine take_at 1 38 (v := ?_) rfl rfl (by kernel_rfl) (by kernel_rfl) (by kernel_rfl) (Or.inl ⟨by rfl, ?_⟩) hHeld ?_
  rotate_left
  · intro w hSw; go_simp; with_reducible rfl
  simp only [Act.put, List.setIfInBounds_toArray, List.set_cons_zero, List.set_cons_succ]
  refine take_at 2 39 (v := ?_) rfl rfl (by kernel_rfl) (by kernel_rfl) (by kernel_rfl) (Or.inl ⟨by rfl, ?_⟩) hHeld ?_
  rotate_left
  · intro w hSw; go_simp; with_reducible rfl
  simp only [Act.put, List.setIfInBounds_toArray, List.set_cons_zero, List.set_cons_succ]
  refine take_at 3 40 (v := ?_) rfl rfl (by kernel_rfl) (by kernel_rfl) (by kernel_rfl) (Or.inl ⟨by rfl, ?_⟩) hHeld ?_
  rotate_left
  · intro w hSw; have c := hSw.1; go_simp; with_reducible rfl
  simp only [Act.put, List.setIfInBounds_toArray, List.set_cons_zero, List.set_cons_succ]
  refine take_at 4 41 (v := ?_) rfl rfl (by kernel_rfl) (by kernel_rfl) (by kernel_rfl) (Or.inl ⟨by rfl, ?_⟩) hHeld ?_
  rotate_left
  · intro w hSw; go_simp; with_reducible rfl
  simp only [Act.put, List.setIfInBounds_toArray, List.set_cons_zero, List.set_cons_succ]
  refine take_at 5 42 rfl rfl (by kernel_rfl) (by kernel_rfl) (by kernel_rfl) (yieldsIf_load_mid (by rfl) 61 _ rfl g 0 rfl NV.toList _ (fun w' h => h.2) Try.underlying61 rfl s4l) hHeld ?_
  simp only [Act.put, List.setIfInBounds_toArray, List.set_cons_zero, List.set_cons_succ]
  refine wpAnyH_ready (rs := [6]) (by kernel_rfl) (by simp) ?_
  refine AllReadyH.cons rfl (fun K2 hK => ?_) AllReadyH.nil
  go_simp
  generalize A.writeZ 0 (1 - K.sl) K.next = A2 at *
  generalize A.writeE 0 (1 - K.sl) K.next = E at *
  refine (unhide CW _ _ (unhide O4).st.st).mono ?_
  intro e w5 hd
  have hd2 := (unhide O4).st.lift hd
  obtain ⟨rfl, -, -⟩ := hd
  have T2 := hide (WH.stay M.toMemL b x S A2 K sl)
  have O5 := hide ((unhide O4).call (St' := WH W m b x St S A2 K sl) hd2.2.1 hd2.2.2)
  clear hd2 O4 CW
  go_wp2_with fail
  refine hK.out _ _ ⟨(unhide O5).st.rep.pm, unhide RG _ _ (unhide O5)⟩ (fun hNew => ?_)
  clear hK K2 hHeld
  have hHeld := hNew
  clear hNew
  refine take_at 7 7 (v := ?_) rfl rfl (by kernel_rfl) (by kernel_rfl) (by kernel_rfl) (Or.inl ⟨by rfl, ?_⟩) hHeld ?_
  rotate_left
  · intro w hSw; go_simp; with_reducible rfl
  simp only [Act.put, List.setIfInBounds_toArray, List.set_cons_zero, List.set_cons_succ]
  refine wpAnyH_done (by kernel_rfl) ?_ _
  refine NoPanic.normal ?_
  clear hHeld
  by_cases hE : E = 0
  · obtain ⟨k1, k2, k3, k4⟩ := unhide eK2 hE
    have KE := hide k1
    have KS := hide k2
    have K3 := hide k3
    have K4 := hide k4
    clear k1 k2 k3 k4 eK1 eK2
    subst hE
    go_upto_region 6 with fail
    have O6 := hide ((unhide O5).drew (unhide T2))
    have HRD : Hid (∀ w', WRepZ m b K sl w' x → w'.rangeAt x 155 (dirV K.d).toList) := fun w' r => r.rd
    have s8 : (Try.prog.info? 43).map (·.size) = some (dirV K.d).toList.length := by rw [Array.length_toList]; exact s8_dir K.d
    have CC2 := hide (unhide CC A2)
    refine wp_region_noPanic ?_
    refine wp_region_held_drew (S := fun w' => w'.cell? ⟨x, 1, none⟩ = some (.pointer (some ⟨b, 0, none⟩)) ∧ w'.rangeAt x 155 (dirV K.d).toList) (by kernel_rfl) ⟨(unhide O6).st.rep.pb, unhide HRD _ (unhide O6).st.rep⟩ (fun hHeld => ?_)
    clear O5 CC
    generalize w5.drew = w6 at *
    generalize dirV K.d = DV at *
    refine take_at 0 47 (v := ?_) rfl rfl (by kernel_rfl) (by kernel_rfl) (by kernel_rfl) (Or.inl ⟨by rfl, ?_⟩) hHeld ?_
    rotate_left
    · intro w hSw; go_simp; with_reducible rfl
    simp only [Act.put, List.setIfInBounds_toArray, List.set_cons_zero, List.set_cons_succ]
    refine take_at 1 48 (v := ?_) rfl rfl (by kernel_rfl) (by kernel_rfl) (by kernel_rfl) (Or.inl ⟨by rfl, ?_⟩) hHeld ?_
    rotate_left
    · intro w hSw; go_simp; with_reducible rfl
    simp only [Act.put, List.setIfInBounds_toArray, List.set_cons_zero, List.set_cons_succ]
    refine take_at 2 49 (v := ?_) rfl rfl (by kernel_rfl) (by kernel_rfl) (by kernel_rfl) (Or.inl ⟨by rfl, ?_⟩) hHeld ?_
    rotate_left
    · intro w hSw; go_simp; with_reducible rfl
    simp only [Act.put, List.setIfInBounds_toArray, List.set_cons_zero, List.set_cons_succ]
    refine take_at 3 50 (v := ?_) rfl rfl (by kernel_rfl) (by kernel_rfl) (by kernel_rfl) (Or.inl ⟨by rfl, ?_⟩) hHeld ?_
    rotate_left
    · intro w hSw; have c := hSw.1; go_simp; with_reducible rfl
    simp only [Act.put, List.setIfInBounds_toArray, List.set_cons_zero, List.set_cons_succ]
    refine take_at 4 51 (v := ?_) rfl rfl (by kernel_rfl) (by kernel_rfl) (by kernel_rfl) (Or.inl ⟨by rfl, ?_⟩) hHeld ?_
    rotate_left
    · intro w hSw; go_simp; with_reducible rfl
    simp only [Act.put, List.setIfInBounds_toArray, List.set_cons_zero, List.set_cons_succ]
    refine take_at 5 52 (v := ?_) rfl rfl (by kernel_rfl) (by kernel_rfl) (by kernel_rfl) (Or.inl ⟨by rfl, ?_⟩) hHeld ?_
    rotate_left
    · intro w hSw; go_simp; with_reducible rfl
    simp only [Act.put, List.setIfInBounds_toArray, List.set_cons_zero, List.set_cons_succ]
    refine take_at 6 53 (v := ?_) rfl rfl (by kernel_rfl) (by kernel_rfl) (by kernel_rfl) (Or.inl ⟨by rfl, ?_⟩) hHeld ?_
    rotate_left
    · intro w hSw; go_simp; with_reducible rfl
    simp only [Act.put, List.setIfInBounds_toArray, List.set_cons_zero, List.set_cons_succ]
    refine take_at 7 54 (v := ?_) rfl rfl (by kernel_rfl) (by kernel_rfl) (by kernel_rfl) (Or.inl ⟨by rfl, ?_⟩) hHeld ?_
    rotate_left
    · intro w hSw; go_simp; with_reducible rfl
    simp only [Act.put, List.setIfInBounds_toArray, List.set_cons_zero, List.set_cons_succ]
    refine take_at 8 55 rfl rfl (by kernel_rfl) (by kernel_rfl) (by kernel_rfl) (yieldsIf_load_mid (by rfl) 43 _ rfl x 155 rfl DV.toList _ (fun w' h => h.2) Try.underlying43 rfl s8) hHeld ?_
    simp only [Act.put, List.setIfInBounds_toArray, List.set_cons_zero, List.set_cons_succ]
    refine wpAnyH_ready (rs := [9]) (by kernel_rfl) (by simp) ?_
    refine AllReadyH.cons rfl (fun K2 hK => ?_) AllReadyH.nil
    go_simp
    refine (unhide CC2 _ _ (unhide O6).st.st).mono ?_
    generalize S.commitS K.d = S2 at *
    intro e w7 hd
    have hd2 := (unhide O6).st.lift hd
    obtain ⟨rfl, -, -⟩ := hd
    have T3 := hide (WH.stay M.toMemL b x S2 A2 K sl)
    have O7 := hide ((unhide O6).call (St' := WH W m b x St S2 A2 K sl) hd2.2.1 hd2.2.2)
    clear hd2 O6 CC2
    go_wp2_with fail
    refine hK.out _ _ ⟨(unhide O7).st.rep.pb, unhide HRD _ (unhide O7).st.rep⟩ (fun hNew => ?_)
    clear hK K2 hHeld
    have hHeld := hNew
    clear hNew
    refine take_at 10 8 (v := ?_) rfl rfl (by kernel_rfl) (by kernel_rfl) (by kernel_rfl) (Or.inl ⟨by rfl, ?_⟩) hHeld ?_
    rotate_left
    · intro w hSw; go_simp; with_reducible rfl
    simp only [Act.put, List.setIfInBounds_toArray, List.set_cons_zero, List.set_cons_succ]
    refine wpAnyH_done (by kernel_rfl) ?_ _
    refine NoPanic.normal ?_
    clear hHeld HRD s8
    by_cases hD : S.doneE = 0
    · have K5 := hide (unhide K3 hD)
      rw [hD] at KE ⊢
      have hBl : (iv .i64 K.next).size = 4 := by rw [iv_size]; rfl
      have KR := hide (unhide RG _ _ (unhide O7))
      have TB := hide (Blk.there (unhide O7).st.rep 2 4 (by decide))
      have hsz : NV.size = 4 := by rw [← hNV]; exact hBl
      rw [← hsz] at TB
      have O8 := hide (Held.turn (unhide O7) ((unhide O7).st.setB M.toMemL K.next K.next_len (1 - K.sl)))
      rw [hNV] at O8
      have RM := Blk.sets NV.toList w7 _ 2 (unhide O7).st.rep
      have c6 : (w7.setCells x 2 NV.toList).cell? ⟨x, 6, none⟩ = some (.int .i64 K.sl) := by
        rw [Blk.cell RM 6 (by decide), if_neg (by rw [Array.length_toList, hsz]; omega)]; rfl
      have f6 : (w7.setCells x 2 NV.toList).frozen? ⟨x, 6, none⟩ = false := Blk.free RM 6
      have hw3 : wrap64 (1 - K.sl) = 1 - K.sl := hw2
      clear RM hBl hsz K3 K4 hD
      go_wp2_with (first | (with_reducible refine wpList_load_mid (by with_unfolding_all rfl) 61 _ (by with_unfolding_all rfl) g 0 (by with_unfolding_all rfl) NV.toList _ (unhide KR) Try.underlying61 (by with_unfolding_all rfl) s4l ?_) | (with_reducible refine wpList_store_mid (by with_unfolding_all rfl) 61 _ _ (by with_unfolding_all rfl) x 2 NV (by with_unfolding_all rfl) (by with_unfolding_all rfl) (unhide TB) s4 (unhide X4) ?_))
      go_ret
      rw [unhide KE, unhide KS, unhide K5]
      exact (unhide O8).done (WH.stay M.toMemL b x _ _ _ sl) _
    · have K5 := hide (unhide K4 hD)
      have hqb : (S.doneE == 0) = false := by simpa using hD
      have hqb2 : (S.doneE != 0) = true := by simpa using hD
      clear K3 K4 hD
      generalize S.doneE = E2 at *
      go_wp2_with fail
      go_ret
      rw [unhide KE, unhide KS, unhide K5]
      exact (unhide O7).done (unhide T3) _
  · obtain ⟨k1, k2, k3⟩ := unhide eK1 hE
    have K1 := hide k1
    have K2' := hide k2
    have K3' := hide k3
    have hqb : (E == 0) = false := by simpa using hE
    have hqb2 : (E != 0) = true := by simpa using hE
    clear hE eK1 eK2 k1 k2 k3
    go_wp2_with fail
    go_ret
    rw [unhide K1, unhide K2', unhide K3']
    exact (unhide O5).done (unhide T2) _

end Go.Proofs.Ytinhnnnehhlceaa
