
/-
  A worker's checkpoint is another one: its cells, its steps.
-/
import Derived.Test.YtinhnnnehhlceaaZHas
import Derived.Test.YtinhnnnehhlceaaPkIv
namespace Go.Proofs.Ytinhnnnehhlceaa
open Go.ChangeShapes Go.WideShapes Go.ChangeAt Go.RowKit Go.Joins
set_option maxRecDepth 100000
set_option linter.unusedVariables false
set_option linter.unusedSimpArgs false

theorem built_ck (q : Int) (k : Nat → En) (d : Nat → Int) (a : Option Addr) (n c : Nat) :
    Try.prog.built 83 [(0, .int .i64 q), (1, .agg (tabV k)), (2, .agg (dirV d)), (3, .slice a n c)] = some (ckV q k d (.slice a n c)) := by kernel_rfl
theorem built_ck0 : Try.prog.built 83 [] = some (ckV 0 (fun _ => ze) (fun _ => 0) (.slice none 0 0)) := by kernel_rfl
theorem s157 (q : Int) (k : Nat → En) (d : Nat → Int) (sl : Value) : (Try.prog.info? 83).map (·.size) = some (ckV q k d sl).size := by rw [ckV_size]; kernel_rfl
theorem ckV_one (q : Int) (k : Nat → En) (d : Nat → Int) (a : Option Addr) (n c : Nat) : (ckV q k d (.slice a n c)).all (·.oneCell') = true := by
  refine Array.all_eq_true_iff_forall_mem.2 fun v hv => ?_
  obtain ⟨i, hi, rfl⟩ := Array.mem_iff_getElem.1 hv
  rw [ckV_size] at hi
  have e : (ckV q k d (.slice a n c))[i]? = some (ckF q k d (.slice a n c) i) := tab_get _ _ _ hi
  rw [Array.getElem?_eq_getElem (by rw [ckV_size]; exact hi)] at e
  rw [Option.some.inj e]
  unfold ckF
  repeat' split
  all_goals rfl

section
variable {W w : World} {m b x : Nat} {St : Mm → World → (Nat → Prop) → Prop} {S : Sto} {A : Mm} {K : Wk} {sl : Value} {G G' : Nat → Prop}
/-- Its checkpoint is another one, whose steps lie in a block that nobody else has. -/
theorem WH.setC (M : MemL W m St) (h : WH W m b x St S A K sl w G') (hG : ∀ k, G k → G' k) (q : Int) (k : Nat → En) (d : Nat → Int) (v : Value) (l : List (Nat × Int)) (hr : StepRow w v l) (hv : ∀ g, v.ownBlock = some g → G' g ∧ ¬ G g ∧ W.heap.size ≤ g) :
    WH W m b x St S A ⟨K.b, K.sl, q, k, d, l⟩ v (w.setCells x 7 (ckV q k d v).toList) G ∧ Same G' w (w.setCells x 7 (ckV q k d v).toList) := by
  have hk := keeps_cells x (ckV q k d v).toList w 7
  have hgx : ∀ g, v.ownBlock = some g → g ≠ x := fun g e q => h.nx (q ▸ (hv g e).1)
  refine ⟨⟨h.rep.putC q k d v l, hr.same (fun j e => hk.block j ((WH.stay M b x S A K sl).lt _ _ h j (hv j e).1) (hgx j e)), (SHas.stay M b S A).ls _ _ _ ((SHas.stay M b S A).ow _ _ _ x h.st (Or.inr (Or.inl rfl)) h.newx hk) (fun j hj => ?_), fun q => h.nx (hG _ q), h.newx, fun j e => ⟨(hv j e).2.1, (hv j e).2.2, hgx j e⟩⟩, fun j hg => ?_⟩
  · rcases hj with hj | hj | hj
    · exact Or.inl (hG j hj)
    · exact Or.inr (Or.inl hj)
    · exact Or.inl (hv j hj).1
  · exact hk.block j ((WH.stay M b x S A K sl).lt _ _ h j hg) (fun e => h.nx (e ▸ hg))
/-- Fewer steps are left, in the same block. -/
theorem WH.setS (M : MemL W m St) (h : WH W m b x St S A K sl w G) (v : Value) (l : List (Nat × Int)) (hr : StepRow w v l) (hv : ∀ g, v.ownBlock = some g → sl.ownBlock = some g) :
    WH W m b x St S A (K.less l) v (w.setCell ⟨x, 163, none⟩ v) G ∧ Same G w (w.setCell ⟨x, 163, none⟩ v) := by
  have hk : Keeps (· = x) w (w.setCell ⟨x, 163, none⟩ v) := Keeps.setCell (F := (· = x)) (p := ⟨x, 163, none⟩) (Keeps.refl _ _) rfl _
  refine ⟨⟨h.rep.putS l v, hr.same (fun j e => hk.block j (h.slt M j (hv j e)) (h.ns j (hv j e)).2.2), (SHas.stay M b S A).ls _ _ _ ((SHas.stay M b S A).ow _ _ _ x h.st (Or.inr (Or.inl rfl)) h.newx hk) (fun j hj => ?_), h.nx, h.newx, fun j e => h.ns j (hv j e)⟩, fun j hg => ?_⟩
  · rcases hj with hj | hj | hj
    · exact Or.inl hj
    · exact Or.inr (Or.inl hj)
    · exact Or.inr (Or.inr (hv j hj))
  · exact hk.block j ((SHas.stay M b S A).lt _ _ h.st j (Or.inl hg)) (fun e => h.nx (e ▸ hg))
end
theorem lt_of_heapZ {w : World} {g : Nat} {o : Obj} (h : w.heap[g]? = some o) : g < w.heap.size := by
  rcases Nat.lt_or_ge g w.heap.size with h' | h'
  · exact h'
  · rw [Array.getElem?_eq_none h'] at h; cases h
/-- Blocks that a grown world has beside the state: each as if it were laid. -/
theorem Held.growsZ {W : World} {St : World → (Nat → Prop) → Prop} {w0 w w' : World} {G : Nat → Prop} {L : List (Nat × Obj)} (S : Stay W St) (h : Held W St w0 w G L) (hk : Keeps (fun _ => False) w w') :
    ∀ d, w.heap.size + d ≤ w'.heap.size → ∃ u L', Held W St w0 u G L' ∧ Keeps (fun _ => False) u w' ∧ u.heap.size = w.heap.size + d ∧ (∀ k, w.heap.size ≤ k → k < w.heap.size + d → ∃ o, (k, o) ∈ L' ∧ w'.heap[k]? = some o) ∧ ∀ p ∈ L, p ∈ L'
  | 0, _ => ⟨w, L, h, hk, rfl, fun k h1 h2 => by omega, fun p hp => hp⟩
  | d + 1, hd => by
    obtain ⟨u, L', h1, h2, h3, h4, h5⟩ := Held.growsZ S h hk d (by omega)
    obtain ⟨o, ho⟩ : ∃ o, w'.heap[u.heap.size]? = some o := ⟨w'.heap[u.heap.size]'(by omega), Array.getElem?_eq_getElem _⟩
    refine ⟨u.alloc o, (u.heap.size, o) :: L', h1.alloc S o, keeps_made h2 ho, by simp; omega, fun k k1 k2 => ?_, fun p hp => List.mem_cons_of_mem _ (h5 p hp)⟩
    by_cases e : k = u.heap.size
    · exact ⟨o, by rw [e]; exact List.mem_cons_self, by rw [e]; exact ho⟩
    · obtain ⟨o', q1, q2⟩ := h4 k k1 (by omega)
      exact ⟨o', List.mem_cons_of_mem _ q1, q2⟩
theorem Held.joinsZ {W : World} {St : World → (Nat → Prop) → Prop} {w0 w w' : World} {G : Nat → Prop} {L : List (Nat × Obj)} (S : Stay W St) (h : Held W St w0 w G L) (hk : Keeps (fun _ => False) w w') (g : Nat) (o : Obj) (hg : w.heap.size ≤ g) (ho : w'.heap[g]? = some o) : Held W St w0 w' G ((g, o) :: L) := by
  have hlt := lt_of_heapZ ho
  obtain ⟨u, L', h1, h2, h3, h4, h5⟩ := Held.growsZ S h hk (w'.heap.size - w.heap.size) (by omega)
  refine (h1.keeps S h2).less S (fun p hp => ?_)
  rcases List.mem_cons.1 hp with rfl | hp
  · obtain ⟨o', q1, q2⟩ := h4 g hg (by omega)
    rw [ho] at q2
    rw [Option.some.inj q2]; exact q1
  · exact h5 p hp


end Go.Proofs.Ytinhnnnehhlceaa
