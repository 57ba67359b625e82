
/-
  What nvm's Clone does: a memory of its own that is like the first.
-/
import Derived.Test.YtinhnnnehhlceaaGreatPkNvm
import Derived.Laws.AppendOwnNone
import Derived.Lib.BufferMore
namespace Go.Proofs.YtinhnnnehhlceaaGreat
open Go.ChangeShapes Go.WideShapes Go.ChangeAt Go.RowKit Go.Joins
set_option maxRecDepth 10000
set_option linter.unusedVariables false
set_option linter.unusedSimpArgs false

theorem stV_one (t : List (Nat × Int)) : ∀ u ∈ stV t, u.oneCell' = true := by
  intro u hu
  simp only [stV, List.mem_flatMap] at hu
  obtain ⟨p, _, hp⟩ := hu
  simp at hp
  rcases hp with rfl | rfl <;> rfl
/-- The stores of a line in a block of its own. -/
theorem row_own {T : TypeId} {w : World} {base : Nat} {v' : Value} {l : Ln} (h : w.ownsRow base T 2 v' l.t.length (stV l.t)) (hv : v' ≠ .slice none 0 0) :
    ∃ g cap, v' = .slice (some ⟨g, 0, none⟩) l.t.length cap ∧ base ≤ g ∧ Row T w ⟨l, some (g, 0), cap⟩ := by
  rcases h.2 with ⟨h', _⟩ | ⟨g, cap, cur, rfl, hb, hg, hnc, hcm, hcs, htake⟩
  · exact absurd h' hv
  · refine ⟨g, cap, rfl, hb, Or.inr ⟨g, 0, cur, rfl, hg, ?_, hnc, ?_, ?_⟩⟩
    · simp only [Nat.zero_add]; omega
    · unfold maxLen at hcm; omega
    · intro j hj
      have hr := stV_get l.t j hj
      have hj' : j < l.t.length := hj
      have h1 := h.cellAt (j * 2) (by omega)
      have h2 := h.cellAt (j * 2 + 1) (by omega)
      rw [cell_of_block hg] at h1 h2
      rw [Nat.zero_add]
      exact ⟨h1.trans hr.1, h2.trans hr.2⟩

def StC (w : World) (l : Ln) (e : Ending) (w' : World) : Prop :=
  ∃ ad cap, e = .returned (.slice (slot ad) l.t.length cap) ∧ Row 159 w' ⟨l, ad, cap⟩ ∧ (∀ g, ad.map (·.1) = some g → w.heap.size ≤ g) ∧ Keeps (fun _ => False) w w'

theorem stores_clone (w : World) (C : Cel) (hrow : Row 159 w C) (hlen : C.l.t.length ≤ 1000) :
    Calls Tryz.prog 93 #[.slice (slot C.ad) C.l.t.length C.cap] w (StC w C.l) := by
  cases had : C.ad with
  | none =>
    have hz : C.cap = 0 ∧ C.l.t = [] := by
      rcases hrow with ⟨_, h1, h2⟩ | ⟨g, off, cur, h1, _⟩
      · exact ⟨h1, h2⟩
      · rw [had] at h1; simp at h1
    have hl : C.l.t.length = 0 := by rw [hz.2]; rfl
    have H : Hid (StC w C.l (.returned (.slice none 0 0)) w) := ⟨none, 0, by rw [hl]; rfl, Or.inl ⟨rfl, rfl, hz.2⟩, fun g hg => by simp at hg, Keeps.refl _ _⟩
    rw [hl, hz.1]
    show Calls Tryz.prog _ #[.slice none 0 0] w _
    clear hrow hlen had hz hl
    go_enter Tryz.func93, Tryz.ntmps93
    have hn := Go.Lib.run_eql_slice_nil_nil w 0 0 Tryz.underlying153
    go_wp2_with fail
    go_ret
    exact unhide H
  | some p =>
    obtain ⟨g, off⟩ := p
    have HC : Hid (∀ V : World, Keeps (fun _ => False) w V → ∀ j u, (stV C.l.t)[j]? = some u → V.cell? ((⟨g, off, none⟩ : Addr).add j) = some u) := fun V hV j u hj => by
      have := row_cells hrow ⟨g, off, none⟩ (by rw [had]; rfl) j u hj
      rw [Addr.add_mid] at this ⊢
      exact hV.cellOf this id
    show Calls Tryz.prog _ #[.slice (some ⟨g, off, none⟩) C.l.t.length C.cap] w _
    obtain ⟨l, hl⟩ : ∃ l, l = C.l := ⟨_, rfl⟩
    obtain ⟨cap, hcap⟩ : ∃ cap, cap = C.cap := ⟨_, rfl⟩
    rw [← hl] at HC hlen ⊢
    rw [← hcap]
    clear hrow had hl hcap
    have hn := Go.Lib.run_eql_slice_some_nil w ⟨g, off, none⟩ l.t.length cap Tryz.underlying153
    obtain ⟨i0, hi, hz0, hz1, hz2⟩ := info_parts info_store
    go_enter Tryz.func93, Tryz.ntmps93
    go_wp2_with (at_builtin; refine wpList_append_own _ rfl (.tmp 5) (.tmp 6) 153 rfl w.heap.size 159 i0 _ 2 16 Tryz.underlying153 hi hz0 hz1 hz2 rfl (by decide) (.slice (some ⟨w.heap.size, 0, none⟩) 0 0) 0 [] rfl (World.ownsRow_lit (base := w.heap.size) (e := 159) (size := 2) w #[] 0 (Nat.le_refl _) (by decide) rfl) ⟨g, off, none⟩ l.t.length cap (stV l.t) rfl (stV_len _) (unhide HC _ ((Keeps.refl _ _).alloc _)) (stV_one _) (by unfold maxLen; omega) (by omega) (by simp) ?_; intro v1 w1 hown hgr hnil)
    rw [Nat.zero_add, List.nil_append] at hown
    obtain ⟨g', cap', rfl, hb', hrow'⟩ := row_own hown (fun h => by have := (hnil.1 h).1; simp at this)
    have HK : Hid (Keeps (fun _ => False) w w1) := Keeps.grown ((Keeps.refl _ w).alloc _) hgr (fun k hk => by simp [Value.ownBlock] at hk; right; omega)
    have H : Hid (StC w l (.returned (.slice (some ⟨g', 0, none⟩) l.t.length cap')) w1) := ⟨some (g', 0), cap', rfl, hrow', fun x hx => by simp at hx; omega, unhide HK⟩
    clear hown hgr hnil hrow' hb' HK hi hz0 hz1 hz2 HC hn
    go_wp2_with fail
    go_ret
    exact unhide H

def celV (n : Nat) (cs : Nat → Cel) : List Value := (List.range (n * 25)).map (encF cs)
theorem celV_len (n : Nat) (cs : Nat → Cel) : (celV n cs).length = n * 25 := by simp [celV]
theorem celV_one (n : Nat) (cs : Nat → Cel) : ∀ u ∈ celV n cs, u.oneCell' = true := by
  intro u hu
  simp only [celV, List.mem_map] at hu
  obtain ⟨i, _, rfl⟩ := hu; exact encAt_one _ _
theorem celV_own {w : World} {base : Nat} {v' : Value} {n : Nat} {cs : Nat → Cel} (h : w.ownsRow base 155 25 v' n (celV n cs)) (hv : v' ≠ .slice none 0 0) :
    ∃ g cap, v' = .slice (some ⟨g, 0, none⟩) n cap ∧ base ≤ g ∧ Blk w g (n * 25) 155 (encF cs) := by
  rcases h.2 with ⟨h', _⟩ | ⟨g, cap, cur, rfl, hb, hg, hnc, hcm, hcs, htake⟩
  · exact absurd h' hv
  · refine ⟨g, cap, rfl, hb, cur, hg, by omega, fun i hi => ?_⟩
    have h1 := h.cellAt i hi
    rw [cell_of_block hg] at h1
    rw [h1]; simp [celV, hi]

def CeC (w : World) (n : Nat) (cs : Nat → Cel) (e : Ending) (w' : World) : Prop :=
  ∃ g cap, e = .returned (.slice (some ⟨g, 0, none⟩) n cap) ∧ w.heap.size ≤ g ∧ Blk w' g (n * 25) 155 (encF cs) ∧ Keeps (fun _ => False) w w'
theorem cells_clone (w : World) (c n K : Nat) (cs : Nat → Cel) (hn : n ≤ 1024) (h : Blk w c (n * 25) 155 (encF cs)) :
    Calls Tryz.prog 92 #[.slice (some ⟨c, 0, none⟩) n K] w (CeC w n cs) := by
  have HC : Hid (∀ V : World, Keeps (fun _ => False) w V → ∀ j u, (celV n cs)[j]? = some u → V.cell? ((⟨c, 0, none⟩ : Addr).add j) = some u) := fun V hV j u hj => by
    have hjl : j < n * 25 := by
      rw [← celV_len n cs]
      rcases Nat.lt_or_ge j (celV n cs).length with h' | h'
      · exact h'
      · rw [List.getElem?_eq_none h'] at hj; simp at hj
    rw [Addr.add_mid, Nat.zero_add]
    refine hV.cellOf ?_ id
    rw [h.cell j hjl]
    simpa [celV, hjl] using hj
  clear h
  have hn1 := Go.Lib.run_eql_slice_some_nil w ⟨c, 0, none⟩ n K Tryz.underlying124
  obtain ⟨i0, hi, hz0, hz1, hz2⟩ := info_parts info_cell
  go_enter Tryz.func92, Tryz.ntmps92
  go_wp2_with (at_builtin; refine wpList_append_own _ rfl (.tmp 5) (.tmp 6) 124 rfl w.heap.size 155 i0 _ 25 216 Tryz.underlying124 hi hz0 hz1 hz2 (by show (tab 25 _).size = 25; exact tab_size _ _) (by decide) (.slice (some ⟨w.heap.size, 0, none⟩) 0 0) 0 [] rfl (World.ownsRow_lit (base := w.heap.size) (e := 155) (size := 25) w #[] 0 (Nat.le_refl _) (by decide) rfl) ⟨c, 0, none⟩ n K (celV n cs) rfl (celV_len _ _) (unhide HC _ ((Keeps.refl _ _).alloc _)) (celV_one _ _) (by unfold maxLen; omega) (by omega) (by simp) ?_; intro v1 w1 hown hgr hnil)
  rw [Nat.zero_add, List.nil_append] at hown
  obtain ⟨g', cap', rfl, hb', hrow'⟩ := celV_own hown (fun h => by have := (hnil.1 h).1; simp at this)
  have HK : Hid (Keeps (fun _ => False) w w1) := Keeps.grown ((Keeps.refl _ w).alloc _) hgr (fun k hk => by simp [Value.ownBlock] at hk; right; omega)
  have H : Hid (CeC w n cs (.returned (.slice (some ⟨g', 0, none⟩) n cap')) w1) := ⟨g', cap', rfl, hb', hrow', unhide HK⟩
  clear hown hgr hnil hrow' hb' HK hi hz0 hz1 hz2 HC hn1
  go_wp2_with fail
  go_ret
  exact unhide H

/-! ### The clone, its first k lines' stores its own -/
structure Part (W w : World) (k b c : Nat) (A : Mm) (cs cr : Nat → Cel) : Prop where
  hd : ∃ K, w.heap[b]? = some (.cells (headOf A c K) 126 (0, 0))
  bl : Blk w c (A.n * 25) 155 (encF cr)
  ln : ∀ i, (cr i).l = A.l i
  row : ∀ i, i < k → Row 159 w (cr i)
  ap : ∀ i, i < k → ∀ g, (cr i).blk = some g → g ≠ b ∧ g ≠ c ∧ W.heap.size ≤ g
  dj : ∀ i j, i < k → j < k → i ≠ j → ∀ g, (cr i).blk = some g → (cr j).blk ≠ some g
  old : ∀ i, k ≤ i → cr i = cs i
  bc : b ≠ c
  hb : W.heap.size ≤ b
  hc : W.heap.size ≤ c
  kp : Keeps (fun _ => False) W w
theorem Part.next {W w w1 : World} {k b c : Nat} {A : Mm} {cs cr : Nat → Cel} (h : Part W w k b c A cs cr) (hk : k < A.n) (ad : Option (Nat × Nat)) (cap : Nat) (hK : Keeps (fun _ => False) w w1) (hrow : Row 159 w1 ⟨A.l k, ad, cap⟩) (hg : ∀ g, ad.map (·.1) = some g → w.heap.size ≤ g) :
    Part W (w1.setCell ⟨c, k * 25 + 16, none⟩ (.slice (slot ad) (A.l k).t.length cap)) (k + 1) b c A cs (upd cr k ⟨A.l k, ad, cap⟩) := by
  have hclt := h.bl.lt
  have hblt : b < w.heap.size := by obtain ⟨K, hd⟩ := h.hd; exact lt_of_block hd
  have hK2 : Keeps (· = c) w (w1.setCell ⟨c, k * 25 + 16, none⟩ (.slice (slot ad) (A.l k).t.length cap)) := Keeps.setCell (F := (· = c)) (p := ⟨c, k * 25 + 16, none⟩) (hK.mono fun _ _ f => f.elim) rfl _
  refine ⟨?_, ?_, fun i => ?_, fun i hi => ?_, fun i hi g hg' => ?_, fun i j hi hj hij g hg1 hg2 => ?_, fun i hi => ?_, h.bc, h.hb, h.hc, ?_⟩
  · obtain ⟨K, hd⟩ := h.hd
    exact ⟨K, by rw [hK2.block b hblt h.bc]; exact hd⟩
  · refine ((h.bl.keeps hK id).set (k * 25 + 16) _).ext fun i hi => ?_
    by_cases e : i / 25 = k
    · by_cases e2 : i % 25 = 16
      · obtain rfl : i = k * 25 + 16 := by omega
        rw [upd_same, encF_at _ _ _ (by omega), upd_same]; rfl
      · rw [upd_other _ _ _ _ (by omega)]
        unfold encF
        rw [e, upd_same]
        unfold encAt
        simp only [e2, if_false, h.ln k]
    · rw [upd_other _ _ _ _ (by omega)]
      unfold encF
      rw [upd_other _ _ _ _ e]
  · by_cases e : i = k
    · subst e; rw [upd_same]
    · rw [upd_other _ _ _ _ e]; exact h.ln i
  · by_cases e : i = k
    · subst e; rw [upd_same]
      exact hrow.keeps (F := (· = c)) (Keeps.setCell (F := (· = c)) (p := ⟨c, _, none⟩) (Keeps.refl _ _) rfl _) fun g e1 e2 => by have := hg g e1; omega
    · rw [upd_other _ _ _ _ e]
      exact (h.row i (by omega)).keeps hK2 fun g e1 => (h.ap i (by omega) g e1).2.1
  · by_cases e : i = k
    · subst e; rw [upd_same] at hg'
      have := hg g hg'
      have := h.kp.size
      exact ⟨by omega, by omega, by omega⟩
    · rw [upd_other _ _ _ _ e] at hg'
      exact h.ap i (by omega) g hg'
  · by_cases e : i = k
    · subst e
      rw [upd_same] at hg1
      rw [upd_other _ _ _ _ (Ne.symm hij)] at hg2
      have := hg g hg1
      have := (h.row j (by omega)).lt g hg2
      omega
    · rw [upd_other _ _ _ _ e] at hg1
      by_cases e' : j = k
      · subst e'
        rw [upd_same] at hg2
        have := hg g hg2
        have := (h.row i (by omega)).lt g hg1
        omega
      · rw [upd_other _ _ _ _ e'] at hg2
        exact h.dj i j (by omega) (by omega) hij g hg1 hg2
  · rw [upd_other _ _ _ _ (by omega)]; exact h.old i (by omega)
  · exact Keeps.setCell_new (p := ⟨c, k * 25 + 16, none⟩) (h.kp.trans' hK) h.hc _
theorem Part.done {W w : World} {b c : Nat} {A : Mm} {cs cr : Nat → Cel} (h : Part W w A.n b c A cs cr) : Rep w (fun x => x = b ∨ x = c ∨ ∃ i, i < A.n ∧ (cr i).blk = some x) b A c cr := by
  refine ⟨h.hd, h.bl, h.ln, h.row, h.bc, fun i hi g hg => ⟨(h.ap i hi g hg).1, (h.ap i hi g hg).2.1, Or.inr (Or.inr ⟨i, hi, hg⟩)⟩, h.dj, Or.inl rfl, Or.inr (Or.inl rfl), fun x hx => ?_⟩
  rcases hx with rfl | rfl | ⟨i, hi, hg⟩
  · obtain ⟨K, hd⟩ := h.hd; exact lt_of_block hd
  · exact h.bl.lt
  · exact (h.row i hi).lt x hg

def Cloned (w : World) (A : Mm) (e : Ending) (w' : World) : Prop :=
  ∃ b c F cs, e = .returned (.pointer (some ⟨b, 0, none⟩)) ∧ Rep w' F b A c cs ∧ Keeps (fun _ => False) w w' ∧ ∀ k, F k → w.heap.size ≤ k

theorem clone_any {w : World} {F : Nat → Prop} {b c : Nat} {A : Mm} {cs : Nat → Cel} (h : Rep w F b A c cs) (hok : A.ok 1000) :
    Calls Tryz.prog 29 #[.pointer (some ⟨b, 0, none⟩)] w (Cloned w A) := by
  obtain ⟨o1, o2, o3, o4, o5, o6, o7⟩ := hok
  obtain ⟨K0, c0⟩ := h.c0
  have c1 := h.c1
  have c2 := h.c2
  have c3 := h.c3
  have H := hide h
  clear h
  have d0 : (w.alloc (.cells #[.slice (some ⟨c, 0, none⟩) A.n K0, .bool A.on, .int .i64 A.fuse, .int .i64 (A.steps : Int)] 126)).cell? ⟨b, 0, none⟩ = some (.slice (some ⟨c, 0, none⟩) A.n K0) := ((Keeps.refl (fun _ => False) w).alloc _).cellOf c0 id
  go_enter Tryz.func29, Tryz.ntmps29
  go_wp2_with fail
  refine (cells_clone _ c A.n K0 cs o2 ((unhide H).bl.alloc _)).mono ?_
  rintro e w2 ⟨c', cap', rfl, hc', hbl', hk'⟩
  obtain ⟨b', hb'⟩ : ∃ b', b' = w.heap.size := ⟨_, rfl⟩
  have hnb : (w.alloc (.cells #[.slice (some ⟨c, 0, none⟩) A.n K0, .bool A.on, .int .i64 A.fuse, .int .i64 (A.steps : Int)] 126)).heap[b']? = some (.cells #[.slice (some ⟨c, 0, none⟩) A.n K0, .bool A.on, .int .i64 A.fuse, .int .i64 (A.steps : Int)] 126 (0, 0)) := by rw [hb']; exact heap_new w _
  have hnb2 := (hk'.block b' (lt_of_block hnb) id).trans hnb
  have hcb : b' < c' := by have h2 : w.heap.size + 1 ≤ c' := (by simpa using hc'); omega
  have hkw : Keeps (fun _ => False) w w2 := ((Keeps.refl (fun _ => False) w).alloc _).trans' hk'
  have P0 : Hid (Part w (w2.setCell ⟨b', 0, none⟩ (.slice (some ⟨c', 0, none⟩) A.n cap')) 0 b' c' A cs cs) := by
    refine ⟨⟨cap', by rw [block_setCell hnb2]; rfl⟩, ?_, (unhide H).ln, fun i hi => by omega, fun i hi => by omega, fun i j hi => by omega, fun _ _ => rfl, by omega, by omega, by omega, Keeps.setCell_new (p := ⟨b', 0, none⟩) hkw (by show w.heap.size ≤ b'; omega) _⟩
    exact hbl'.keeps (F := (· = b')) (Keeps.setCell (F := (· = b')) (p := ⟨b', 0, none⟩) (Keeps.refl _ _) rfl _) (by omega)
  have e0 : w2.cell? ⟨b', 0, none⟩ = some (.slice (some ⟨c, 0, none⟩) A.n K0) := by rw [cell_of_block hnb2]; rfl
  have e1 := unfrozen_of_block hnb2 0
  rw [← hb'] at *
  clear hnb hnb2 hbl' hk' hkw d0 c0 c1 c2 c3
  go_upto_region 3 with fail
  generalize w2.setCell ⟨b', 0, none⟩ (.slice (some ⟨c', 0, none⟩) A.n cap') = X at *
  clear e0 e1 hb' hc' hcb
  obtain ⟨K1, c0⟩ : ∃ K, X.cell? ⟨b', 0, none⟩ = some (.slice (some ⟨c', 0, none⟩) A.n K) := by obtain ⟨K, hd⟩ := (unhide P0).hd; exact ⟨K, by rw [cell_of_block hd]; rfl⟩
  go_wp2_with fail
  go_loopw [18] (fun i wr => ∃ k : Nat, k ≤ A.n ∧ i = .int .i64 k ∧ ∃ cr, Part w wr k b' c' A cs cr) (fun i _ => A.n - (intOf i).toNat)
  case atStart => exact ⟨0, by omega, rfl, cs, unhide P0⟩
  case round =>
    clear c0
    obtain ⟨k, hk, rfl, cr, hp⟩ := hrel
    have HP := hide hp
    by_cases hlt : k < A.n
    · obtain ⟨K2, c0⟩ : ∃ K, wr.cell? ⟨b', 0, none⟩ = some (.slice (some ⟨c', 0, none⟩) A.n K) := by obtain ⟨K, hd⟩ := hp.hd; exact ⟨K, by rw [cell_of_block hd]; rfl⟩
      have hcs : (cs k).l = A.l k := (unhide H).ln k
      have RC : Hid (Calls Tryz.prog 93 #[.slice (slot (cs k).ad) (A.l k).t.length (cs k).cap] wr (StC wr (A.l k))) := by
        have := stores_clone wr (cs k) (((unhide H).row k hlt).keeps hp.kp fun _ _ => id) (by rw [hcs]; exact o4 k)
        rw [hcs] at this; exact this
      have cc : wr.cell? ⟨c', k * 25 + 16, none⟩ = some (.slice (slot (cs k).ad) (A.l k).t.length (cs k).cap) := by
        rw [hp.bl.cell _ (by omega), encF_at _ _ _ (by omega), hp.old k (Nat.le_refl _), ← hcs]; rfl
      have cf := hp.bl.free (k * 25 + 16)
      have HCF : Hid (∀ w1, Keeps (fun _ => False) wr w1 → w1.frozen? ⟨c', k * 25 + 16, none⟩ = false) := fun w1 h1 => (hp.bl.keeps h1 id).free _
      obtain ⟨so, hso⟩ : ∃ so, so = slot (cs k).ad := ⟨_, rfl⟩
      obtain ⟨sc, hsc⟩ : ∃ sc, sc = (cs k).cap := ⟨_, rfl⟩
      rw [← hso, ← hsc] at RC cc
      clear hp hcs hso hsc
      go_wp2_with fail
      refine (unhide RC).mono ?_
      rintro e w1 ⟨ad, cap, rfl, hrow, hg, hk1⟩
      have cc1 := hk1.cellOf cc id
      have cf1 := unhide HCF w1 hk1
      have HN := hide ((unhide HP).next hlt ad cap hk1 hrow hg)
      clear hk1 hrow hg cc cf c0 HCF RC HP
      go_wp2_with fail
      go_roundw
      case rel => exact ⟨k + 1, by omega, by go_num, _, unhide HN⟩
      case measure => simp [intOf]; omega
    · obtain rfl : k = A.n := by omega
      clear hp
      have HE : Hid (Cloned w A (.returned (.pointer (some ⟨b', 0, none⟩))) wr) := ⟨b', c', _, cr, rfl, (unhide HP).done, (unhide HP).kp, fun x hx => by
        rcases hx with rfl | rfl | ⟨i, hi, hg⟩
        · exact (unhide HP).hb
        · exact (unhide HP).hc
        · exact ((unhide HP).ap i hi x hg).2.2⟩
      clear HP
      go_wp2_with fail
      go_ret
      exact unhide HE

end Go.Proofs.YtinhnnnehhlceaaGreat
