
/-
  A store is written: an entry of the working table, whole or its line alone; cells of blocks of the call's own.
-/
import Derived.Test.YtjmgmbigbkllgaaOLay
namespace Go.Proofs.Ytjmgmbigbkllgaa
open Go.ChangeShapes Go.WideShapes Go.ChangeAt Go.RowKit Go.Joins
set_option maxRecDepth 10000
set_option linter.unusedVariables false
set_option linter.unusedSimpArgs false

section
variable {W : World} {St St' : World → (Nat → Prop) → Prop} {w0 w w' : World} {G : Nat → Prop} {L : List (Nat × Obj)}
/-- A block of the call's own turns, the others stay. -/
theorem Held.turnOwn (S : Stay W St) (h : Held W St w0 w G L) (g : Nat) (o o' : Obj) (hm : (g, o) ∈ L) (hk : Keeps (· = g) w w') (ho : w'.heap[g]? = some o') : Held W St w0 w' G ((g, o') :: L.filter fun p => p.1 != g) := by
  have hg := h.2.1 _ hm
  refine ⟨S.ls _ _ _ (S.ow _ _ _ g h.1 (Or.inr ⟨_, hm⟩) hg.2.1 hk) (fun k hk => ?_), fun p hp => ?_, fun k hk' => ?_⟩
  · rcases hk with hk | ⟨o', hk⟩
    · exact Or.inl hk
    · rcases List.mem_cons.1 hk with e | hk
      · cases e; exact Or.inr ⟨_, hm⟩
      · exact Or.inr ⟨o', (List.mem_filter.1 hk).1⟩
  · rcases List.mem_cons.1 hp with rfl | hp
    · exact ⟨ho, hg.2⟩
    · rw [List.mem_filter] at hp
      exact ⟨(hk.block p.1 (h.lt p hp.1) (by simpa using hp.2)).trans (h.2.1 p hp.1).1, (h.2.1 p hp.1).2⟩
  · rw [hk.block k (S.lt _ _ h.1 k (Or.inl hk')) (fun e => hg.2.2 (e ▸ hk'))]; exact h.2.2 k hk'
theorem Held.cellset (S : Stay W St) (h : Held W St w0 w G L) (g : Nat) (ds : Array Value) (t : TypeId) (hm : (g, .cells ds t (0, 0)) ∈ L) (i : Nat) (v : Value) : Held W St w0 (w.setCell ⟨g, i, none⟩ v) G ((g, .cells (ds.setIfInBounds i v) t (0, 0)) :: L.filter fun p => p.1 != g) :=
  h.turnOwn S g _ _ hm (Keeps.setCell (F := (· = g)) (p := ⟨g, i, none⟩) (Keeps.refl _ _) rfl _) (block_setCell (h.at g _ hm) v)
/-- The block that was laid last is written whole. -/
theorem Held.rowHd (S : Stay W St) {g : Nat} {ds : Array Value} {t : TypeId} {fr : Nat × Nat} (h : Held W St w0 w G ((g, .cells ds t fr) :: L)) (hne : ∀ p ∈ L, p.1 ≠ g) (cs : Array Value) : Held W St w0 (w.setRow g cs) G ((g, .cells cs t fr) :: L) :=
  (h.row S g ds t fr List.mem_cons_self cs).less S fun p hp => by
    rcases List.mem_cons.1 hp with rfl | hp
    · exact List.mem_cons_self
    · exact List.mem_cons_of_mem _ (List.mem_filter.2 ⟨List.mem_cons_of_mem _ hp, by simpa using hne p hp⟩)
theorem Held.cellHd (S : Stay W St) {g : Nat} {ds : Array Value} {t : TypeId} (h : Held W St w0 w G ((g, .cells ds t (0, 0)) :: L)) (hne : ∀ p ∈ L, p.1 ≠ g) (i : Nat) (v : Value) : Held W St w0 (w.setCell ⟨g, i, none⟩ v) G ((g, .cells (ds.setIfInBounds i v) t (0, 0)) :: L) :=
  (h.cellset S g ds t List.mem_cons_self i v).less S fun p hp => by
    rcases List.mem_cons.1 hp with rfl | hp
    · exact List.mem_cons_self
    · exact List.mem_cons_of_mem _ (List.mem_filter.2 ⟨List.mem_cons_of_mem _ hp, by simpa using hne p hp⟩)
theorem Held.fresh (h : Held W St w0 w G L) : ∀ p ∈ L, p.1 ≠ w.heap.size := fun p hp => by have := h.lt p hp; omega
/-- The state turns by a write of its own. -/
theorem Held.turn (h : Held W St w0 w G L) (h1 : St' w' (fun k => G k ∨ ∃ o, (k, o) ∈ L) ∧ Same (fun k => G k ∨ ∃ o, (k, o) ∈ L) w w') : Held W St' w0 w' G L := h.call h1.1 h1.2
end

theorem lnV_set (f : Nat → Int) (i : Nat) (v : Int) : (lnV f).setIfInBounds i (.int .u64 v) = lnV (upd f i v) := by
  unfold lnV
  rw [tab_set]
  exact tab_ext fun j _ => by
    by_cases e : j = i
    · rw [e, upd_same, upd_same]
    · rw [upd_other _ _ _ _ e, upd_other _ _ _ _ e]
theorem fl3_upd (f : Nat → En) (i : Nat) (x : En) (n : Nat) : fl3 (upd f i x) n = if n / 3 = i then fl3 (fun _ => x) n else fl3 f n := by
  unfold fl3
  by_cases h : n / 3 = i
  · rw [if_pos h, h, upd_same]
  · rw [if_neg h, upd_other _ _ _ _ h]
theorem stF_withW (m : Nat) (S : Sto) (i : Nat) (x : En) (j : Nat) : stF m (S.withW i x) j = if 1027 ≤ j ∧ j < 1174 ∧ (j - 1027) / 3 = i then .int .i64 (fl3 (fun _ => x) (j - 1027)) else stF m S j := by
  unfold stF Sto.withW
  by_cases h0 : j = 0
  · rw [if_pos h0, if_pos h0, if_neg (by omega)]
  · rw [if_neg h0, if_neg h0]
    by_cases h1 : j < 1027
    · rw [if_pos h1, if_pos h1, if_neg (by omega)]
    · rw [if_neg h1, if_neg h1]
      by_cases h2 : j < 1174
      · rw [if_pos h2, if_pos h2, fl3_upd]
        by_cases h3 : (j - 1027) / 3 = i
        · rw [if_pos h3, if_pos ⟨by omega, h2, h3⟩]
        · rw [if_neg h3, if_neg (fun q => h3 q.2.2)]
      · rw [if_neg h2, if_neg h2, if_neg (show ¬ (1027 ≤ j ∧ j < 1174 ∧ (j - 1027) / 3 = i) by omega)]
theorem SRep.withW {m : Nat} {S : Sto} {w : World} {b : Nat} (h : SRep m S w b) (i : Nat) (hi : i < 49) (x : En) : SRep m (S.withW i x) (w.setCells b (1027 + i * 3) (ev x).toList) b := by
  refine (Blk.sets (ev x).toList w _ (1027 + i * 3) h).ext fun j hj => ?_
  rw [stF_withW, ev_list]
  by_cases c : 1027 + i * 3 ≤ j ∧ j < 1027 + i * 3 + 3
  · rw [if_pos (by simpa using c), if_pos ⟨by omega, by omega, by omega⟩]
    rcases (show j = 1027 + i * 3 ∨ j = 1027 + i * 3 + 1 ∨ j = 1027 + i * 3 + 2 by omega) with rfl | rfl | rfl
    · rw [show 1027 + i * 3 - (1027 + i * 3) = 0 by omega, show 1027 + i * 3 - 1027 = i * 3 by omega, fl3_0]; rfl
    · rw [show 1027 + i * 3 + 1 - (1027 + i * 3) = 1 by omega, show 1027 + i * 3 + 1 - 1027 = i * 3 + 1 by omega, fl3_1]; rfl
    · rw [show 1027 + i * 3 + 2 - (1027 + i * 3) = 2 by omega, show 1027 + i * 3 + 2 - 1027 = i * 3 + 2 by omega, fl3_2]; rfl
  · rw [if_neg (by simpa using c), if_neg (by omega)]
theorem SRep.line {m : Nat} {S : Sto} {w : World} {b : Nat} (h : SRep m S w b) (i : Nat) (hi : i < 49) (l : Int) : SRep m (S.withW i (moved (S.w i) l)) (w.setCell ⟨b, 1027 + i * 3 + 2, none⟩ (.int .i64 l)) b := by
  refine (Blk.set h (1027 + i * 3 + 2) (.int .i64 l)).ext fun j hj => ?_
  rw [stF_withW]
  by_cases e : j = 1027 + i * 3 + 2
  · subst e
    rw [upd_same, if_pos ⟨by omega, by omega, by omega⟩, show 1027 + i * 3 + 2 - 1027 = i * 3 + 2 by omega, fl3_2]; rfl
  · rw [upd_other _ _ _ _ e]
    by_cases c : 1027 ≤ j ∧ j < 1174 ∧ (j - 1027) / 3 = i
    · rw [if_pos c]
      obtain ⟨n, rfl⟩ : ∃ n, j = 1027 + n := ⟨j - 1027, by omega⟩
      rw [stF_w _ _ _ (by omega), show 1027 + n - 1027 = n by omega]
      rcases (show n = i * 3 ∨ n = i * 3 + 1 by omega) with rfl | rfl
      · rw [fl3_0, fl3_0]; rfl
      · rw [fl3_1, fl3_1]; rfl
    · rw [if_neg c]
section
variable {W w : World} {m b : Nat} {St : Mm → World → (Nat → Prop) → Prop} {S : Sto} {A : Mm} {G : Nat → Prop}
theorem SHas.line (M : MemL W m St) (h : SHas W m b St S A w G) (i : Nat) (hi : i < 49) (l : Int) :
    SHas W m b St (S.withW i (moved (S.w i) l)) A (w.setCell ⟨b, 1027 + i * 3 + 2, none⟩ (.int .i64 l)) G ∧ Same G w (w.setCell ⟨b, 1027 + i * 3 + 2, none⟩ (.int .i64 l)) :=
  h.turned M (SRep.line h.rep i hi l) (Keeps.setCell (F := (· = b)) (p := ⟨b, _, none⟩) (Keeps.refl _ _) rfl _)
theorem keeps_put3 (w : World) (b o : Nat) (x : En) : Keeps (· = b) w (w.setCells b o (ev x).toList) := by
  rw [ev_list]
  simp only [World.setCells]
  exact ((Keeps.setCell (F := (· = b)) (p := ⟨b, _, none⟩) (Keeps.refl _ _) rfl _).setCell (p := ⟨b, _, none⟩) rfl _).setCell (p := ⟨b, _, none⟩) rfl _
theorem SHas.put (M : MemL W m St) (h : SHas W m b St S A w G) (i : Nat) (hi : i < 49) (x : En) :
    SHas W m b St (S.withW i x) A (w.setCells b (1027 + i * 3) (ev x).toList) G ∧ Same G w (w.setCells b (1027 + i * 3) (ev x).toList) :=
  h.turned M (SRep.withW h.rep i hi x) (keeps_put3 _ _ _ _)
theorem SHas.there3 (h : SHas W m b St S A w G) (i : Nat) (hi : i < 49) : w.there b (1027 + i * 3) 3 := Blk.there h.rep _ _ (by omega)
end
theorem hasZ_inU {A : Mm} {B : Nat} (h : A.ok B) (z : Int) : ∀ j, InU (A.hasZ z j) := fun j => by
  unfold Mm.hasZ
  split
  · exact Ln.has_inU (h.2.2.1 _) j
  · show InU 0; exact ⟨by decide, by decide⟩
theorem copy_inU {A : Mm} {B : Nat} (h : A.ok B) (S : Sto) (z q v : Int) (hv : InU v) : ∀ j, InU (S.copy A z q v j) := fun j => by
  unfold Sto.copy upd
  split
  · exact hv
  · exact hasZ_inU h _ j

end Go.Proofs.Ytjmgmbigbkllgaa
