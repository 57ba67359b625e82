
/-
  For every table, every Dir and every number, ObjectsOf returns true and leaves its arguments as they were: they are taken, or refused, as the document says. No condition.
-/
import Derived.Test.YtjmgmbigbkllgaaPkYs
import Derived.Test.YtjmgmbigbkllgaaOLike
import Derived.Test.YtjmgmbigbkllgaaOTwoM
import Derived.Test.YtjmgmbigbkllgaaPkShow
import Derived.Test.YtjmgmbigbkllgaaLaw
import Derived.Test.YtjmgmbigbkllgaaFlat
import Derived.Test.YtjmgmbigbkllgaaRows
namespace Go.Proofs.Ytjmgmbigbkllgaa.objectsOf
open Go.ChangeShapes Go.WideShapes Go.ChangeAt Go.RowKit Go.Joins
set_option linter.unusedVariables false
set_option linter.unusedSimpArgs false
set_option maxRecDepth 100000

def IsTabO (zs : List Int) : Prop := zs.length = 147 ∧ ∀ z ∈ zs, (Lit.int .i64 z).wf = true
def IsDirO (zs : List Int) : Prop := zs.length = 8 ∧ ∀ z ∈ zs, (Lit.int .i64 z).wf = true
theorem open_tabO {H : Type} {enc : TypeId × Value → H} {W : World} {r : Reach} {b0 base : Nat} {sp : Nat → Bool} {hd : Bool} {v : Value} {d : DataW H} {p : List MemPlace}
    (hv : Value.okWide Try.prog W r b0 24 v) (h : DataW.Trod enc Try.prog W base sp hd 24 v d p) : ∃ zs : List Int, v = .agg (iv .i64 zs) ∧ IsTabO zs := by
  obtain ⟨cs, rfl, hfit⟩ := flat_open 3 (ks := List.replicate 147 (some .i64)) (by kernel_rfl) (Or.inr ⟨_, _, Try.underlying24⟩) hv h
  obtain ⟨zs, hl, hz, hw⟩ := allFit_ints .i64 147 cs.toList hfit
  exact ⟨zs, by rw [iv, ← hz], hl, hw⟩
theorem open_dirO {H : Type} {enc : TypeId × Value → H} {W : World} {r : Reach} {b0 base : Nat} {sp : Nat → Bool} {hd : Bool} {v : Value} {d : DataW H} {p : List MemPlace}
    (hv : Value.okWide Try.prog W r b0 25 v) (h : DataW.Trod enc Try.prog W base sp hd 25 v d p) : ∃ zs : List Int, v = .agg (iv .i64 zs) ∧ IsDirO zs := by
  obtain ⟨cs, rfl, hfit⟩ := flat_open 3 (ks := List.replicate 8 (some .i64)) (by kernel_rfl) (Or.inr ⟨_, _, Try.underlying25⟩) hv h
  obtain ⟨zs, hl, hz, hw⟩ := allFit_ints .i64 8 cs.toList hfit
  exact ⟨zs, by rw [iv, ← hz], hl, hw⟩
theorem tab_of (zs : List Int) (h : zs.length = 147) : iv .i64 zs = tabV (enAt zs) := by unfold tabV; rw [row_en zs 49 h]
theorem dir_of (zs : List Int) (h : zs.length = 8) : iv .i64 zs = dirV fun i => zs.getD i 0 := by
  unfold dirV dirTo8
  congr 1
  refine List.ext_getElem? fun i => ?_
  rw [List.getElem?_map]
  by_cases hi : i < 8
  · rw [List.getElem?_range hi, List.getElem?_eq_getElem (by omega)]
    simp [h, hi]
  · rw [List.getElem?_eq_none (by omega), List.getElem?_eq_none (by simpa using hi)]; rfl
theorem getD_in {zs : List Int} (h : ∀ z ∈ zs, (Lit.int .i64 z).wf = true) (i : Nat) : FIn64 (zs.getD i 0) := by
  rw [List.getD_eq_getElem?_getD]
  rcases Nat.lt_or_ge i zs.length with hi | hi
  · rw [List.getElem?_eq_getElem hi]
    exact in64_wf (h _ (List.getElem_mem hi))
  · rw [List.getElem?_eq_none hi]; exact ⟨by decide, by decide⟩
theorem yL_in {tz dz : List Int} (h1 : ∀ z ∈ tz, (Lit.int .i64 z).wf = true) (h2 : ∀ z ∈ dz, (Lit.int .i64 z).wf = true) : ∀ x ∈ yL (enAt tz) (fun i => dz.getD i 0), FIn64 x := by
  intro x hx
  unfold yL at hx
  rcases List.mem_append.1 hx with hx | hx
  · obtain ⟨i, _, _, rfl⟩ := (linesTo_mem _ _ _).1 hx
    exact getD_in h1 _
  · unfold dirTo at hx
    obtain ⟨i, _, rfl⟩ := List.mem_map.1 hx
    exact getD_in h2 _

set_option maxHeartbeats 8000000 in
theorem walk (tz : List Int) (dz : List Int) (fr : Int) (hT : IsTabO tz) (hD : IsDirO dz) (wf : (Lit.int .i64 fr).wf = true) (W : World) :
    Calls Try.prog 3 #[.agg (iv .i64 tz), .agg (iv .i64 dz), .int .i64 fr] W fun e W' => e = .returned (.bool true) ∧ Below W.heap.size W W' := by
  rw [tab_of tz hT.1, dir_of dz hD.1]
  have HIN := hide (yL_in hT.2 hD.2)
  have hfr : In64 fr := in64_wf wf
  clear hT hD wf
  generalize enAt tz = t at *
  generalize (fun i => dz.getD i 0) = d at *
  have s49 := s147_t49 t
  have s8d := s8_d8 d
  obtain ⟨TV, hTV⟩ : ∃ TV, TV = tabV t := ⟨_, rfl⟩
  obtain ⟨DV, hDV⟩ : ∃ DV, DV = dirV d := ⟨_, rfl⟩
  rw [← hTV] at s49
  rw [← hDV] at s8d
  rw [← hTV, ← hDV]
  have HTV := hide hTV
  have HDV := hide hDV
  clear hTV hDV
  by_cases hbad : fr < 0 ∨ (100 : Int) < fr
  · have HB := hide hbad
    clear hbad HIN
    go_enter Try.func3, Try.ntmps3
    go_upto_region 1 with fail
    obtain ⟨b3', b4'⟩ := heap2 W (.cells TV 24) (.cells DV 25)
    have KW : Hid (Keeps (fun _ => False) W ((W.alloc (.cells TV 24)).alloc (.cells DV 25))) := ((Keeps.refl _ W).alloc _).alloc _
    have B3 := hide b3'
    have B4 := hide b4'
    clear b3' b4'
    try simp only [show (W.alloc (.cells TV 24)).heap.size = W.heap.size + 1 by simp]
    obtain ⟨g3, hg3⟩ : ∃ g3, g3 = W.heap.size := ⟨_, rfl⟩
    obtain ⟨g4, hg4⟩ : ∃ g4, g4 = g3 + 1 := ⟨_, rfl⟩
    rw [← hg3] at B3 B4
    rw [← hg4] at B4
    simp only [← hg3, ← hg4]
    have HNG : Hid (W.heap.size ≤ g3 ∧ W.heap.size ≤ g4) := by constructor <;> omega
    clear hg3 hg4
    generalize (W.alloc (.cells TV 24)).alloc (.cells DV 25) = w0 at *
    go_wp2_with fail
    refine (oshown_any w0).mono ?_
    rintro e w1 ⟨rfl, hk0⟩
    have KW1 := hide ((unhide KW).trans' hk0)
    have C3 := hide ((hk0.block g3 (lt_of_heapO (unhide B3)) id).trans (unhide B3))
    have C4 := hide ((hk0.block g4 (lt_of_heapO (unhide B4)) id).trans (unhide B4))
    clear hk0 KW B3 B4
    go_wp2_with fail
    refine (new_any w1 100 (by decide) (by decide)).mono ?_
    intro e w2 hm
    obtain ⟨m, rfl, h0, -⟩ := made_has W (unhide KW1) hm (fun k => k = g3 ∨ k = g4) (fun k h => by
      rcases h with rfl | rfl
      · exact lt_of_heapO (unhide C3)
      · exact lt_of_heapO (unhide C4))
    have H0 : Hid (Has W w2 (fun k => k = g3 ∨ k = g4) m (sA 100)) := h0
    obtain ⟨_, _, _, _, _, _, hkm, _⟩ := hm
    have D3 := hide ((hkm.block g3 (lt_of_heapO (unhide C3)) id).trans (unhide C3))
    have D4 := hide ((hkm.block g4 (lt_of_heapO (unhide C4)) id).trans (unhide C4))
    clear h0 KW1 C3 C4 hkm
    go_wp2_with fail
    refine (rnew_any w2 100 (by decide) (by decide)).mono ?_
    rintro e w3 ⟨z, gs, cz, gl, F', ads, caps, rfl, hr, hk2, hF⟩
    have H2 : Hid (Two W w3 (fun k => k = g3 ∨ k = g4) m z (sA 100) (sA 100)) := Two.made (unhide H0) hr hk2 hF
    have R3 := hide ((hk2.block g3 (lt_of_heapO (unhide D3)) id).trans (unhide D3))
    have R4 := hide ((hk2.block g4 (lt_of_heapO (unhide D4)) id).trans (unhide D4))
    clear hr hk2 hF H0 D3 D4
    have M := hide (Two.memL W m z (sA 100))
    have RG3 : Hid (∀ w' : World, w'.heap[g3]? = some (.cells TV 24 (0, 0)) → w'.rangeAt g3 0 TV.toList) := fun w' h j v hv => by rw [cell_of_block h, Nat.zero_add, ← Array.getElem?_toList]; exact hv
    have RG4 : Hid (∀ w' : World, w'.heap[g4]? = some (.cells DV 25 (0, 0)) → w'.rangeAt g4 0 DV.toList) := fun w' h j v hv => by rw [cell_of_block h, Nat.zero_add, ← Array.getElem?_toList]; exact hv
    have r3 := hide (unhide RG3 _ (unhide R3))
    have r4 := hide (unhide RG4 _ (unhide R4))
    have CS : Hid (Calls Try.prog 11 #[.pointer (some ⟨m, 0, none⟩), .int .i64 fr, .agg TV, .agg DV] w3 (Done (fun w G => Two W w G m z (sA 100) (sA 100)) w3 (fun k => k = g3 ∨ k = g4) (.tuple #[.pointer none, .int .i64 1]))) := by
      show Calls _ _ _ _ _
      rw [unhide HTV, unhide HDV]
      exact sof_bad (unhide M) (unhide H2) fr t d (by rcases unhide HB with h | h; exact Or.inl h; exact Or.inr (Or.inl h))
    go_wp2_with (first | (with_reducible refine wpList_load_mid (by with_unfolding_all rfl) 24 _ (by with_unfolding_all rfl) g3 0 (by with_unfolding_all rfl) TV.toList _ (unhide r3) Try.underlying24 (by with_unfolding_all rfl) (by rw [Array.length_toList]; exact s49) ?_) | (with_reducible refine wpList_load_mid (by with_unfolding_all rfl) 25 _ (by with_unfolding_all rfl) g4 0 (by with_unfolding_all rfl) DV.toList _ (unhide r4) Try.underlying25 (by with_unfolding_all rfl) (by rw [Array.length_toList]; exact s8d) ?_))
    refine (unhide CS).mono ?_
    rintro e w4 ⟨rfl, h2, hs⟩
    have R3' := hide ((hs g3 (Or.inl rfl)).trans (unhide R3))
    have R4' := hide ((hs g4 (Or.inr rfl)).trans (unhide R4))
    clear R3 R4 r3 r4 hs
    have r3 := hide (unhide RG3 _ (unhide R3'))
    have r4 := hide (unhide RG4 _ (unhide R4'))
    obtain ⟨F1, gs1, cz1, gl1, ads1, caps1, hrr, hh, -, -⟩ := h2
    have CY : Hid (Calls Try.prog 12 #[.pointer (some ⟨z, 0, none⟩), .int .i64 fr, .agg TV, .agg DV] w4 fun e w' => e = .returned (.tuple #[.pointer none, .int .i64 1]) ∧ Keeps (fun _ => False) w4 w') := by
      show Calls _ _ _ _ _
      rw [unhide HTV, unhide HDV]
      exact yof_bad w4 z 100 cz1 _ hrr.c0 fr t d (by rcases unhide HB with h | h; exact Or.inl h; exact Or.inr (Or.inl h))
    have KE := hide hh.keeps
    clear hrr hh CS H2 M
    go_wp2_with (first | (with_reducible refine wpList_load_mid (by with_unfolding_all rfl) 24 _ (by with_unfolding_all rfl) g3 0 (by with_unfolding_all rfl) TV.toList _ (unhide r3) Try.underlying24 (by with_unfolding_all rfl) (by rw [Array.length_toList]; exact s49) ?_) | (with_reducible refine wpList_load_mid (by with_unfolding_all rfl) 25 _ (by with_unfolding_all rfl) g4 0 (by with_unfolding_all rfl) DV.toList _ (unhide r4) Try.underlying25 (by with_unfolding_all rfl) (by rw [Array.length_toList]; exact s8d) ?_))
    refine (unhide CY).mono ?_
    rintro e w5 ⟨rfl, hk⟩
    have KF := hide ((unhide KE).trans' hk)
    clear hk KE CY
    go_wp2_with fail
    go_ret
    exact ⟨rfl, (unhide KF).below (Nat.le_refl _) (fun _ h => h.elim)⟩
  · obtain ⟨lo, rfl⟩ : ∃ lo : Nat, fr = (lo : Int) := ⟨fr.toNat, by omega⟩
    have hlo : lo ≤ 100 := by omega
    clear hbad
    go_enter Try.func3, Try.ntmps3
    go_upto_region 1 with fail
    obtain ⟨b3', b4'⟩ := heap2 W (.cells TV 24) (.cells DV 25)
    have KW : Hid (Keeps (fun _ => False) W ((W.alloc (.cells TV 24)).alloc (.cells DV 25))) := ((Keeps.refl _ W).alloc _).alloc _
    have B3 := hide b3'
    have B4 := hide b4'
    clear b3' b4'
    try simp only [show (W.alloc (.cells TV 24)).heap.size = W.heap.size + 1 by simp]
    obtain ⟨g3, hg3⟩ : ∃ g3, g3 = W.heap.size := ⟨_, rfl⟩
    obtain ⟨g4, hg4⟩ : ∃ g4, g4 = g3 + 1 := ⟨_, rfl⟩
    rw [← hg3] at B3 B4
    rw [← hg4] at B4
    simp only [← hg3, ← hg4]
    have HNG : Hid (W.heap.size ≤ g3 ∧ W.heap.size ≤ g4) := by constructor <;> omega
    clear hg3 hg4
    generalize (W.alloc (.cells TV 24)).alloc (.cells DV 25) = w0 at *
    go_wp2_with fail
    refine (oshown_any w0).mono ?_
    rintro e w1 ⟨rfl, hk0⟩
    have KW1 := hide ((unhide KW).trans' hk0)
    have C3 := hide ((hk0.block g3 (lt_of_heapO (unhide B3)) id).trans (unhide B3))
    have C4 := hide ((hk0.block g4 (lt_of_heapO (unhide B4)) id).trans (unhide B4))
    clear hk0 KW B3 B4
    go_wp2_with fail
    refine (new_any w1 100 (by decide) (by decide)).mono ?_
    intro e w2 hm
    obtain ⟨m, rfl, h0, -⟩ := made_has W (unhide KW1) hm (fun k => k = g3 ∨ k = g4) (fun k h => by
      rcases h with rfl | rfl
      · exact lt_of_heapO (unhide C3)
      · exact lt_of_heapO (unhide C4))
    have H0 : Hid (Has W w2 (fun k => k = g3 ∨ k = g4) m (sA 100)) := h0
    obtain ⟨_, _, _, _, _, _, hkm, _⟩ := hm
    have D3 := hide ((hkm.block g3 (lt_of_heapO (unhide C3)) id).trans (unhide C3))
    have D4 := hide ((hkm.block g4 (lt_of_heapO (unhide C4)) id).trans (unhide C4))
    clear h0 KW1 C3 C4 hkm
    go_wp2_with fail
    refine (rnew_any w2 100 (by decide) (by decide)).mono ?_
    rintro e w3 ⟨z, gs, cz, gl, F', ads, caps, rfl, hr, hk2, hF⟩
    have H2 : Hid (Two W w3 (fun k => k = g3 ∨ k = g4) m z (sA 100) (sA 100)) := Two.made (unhide H0) hr hk2 hF
    have R3 := hide ((hk2.block g3 (lt_of_heapO (unhide D3)) id).trans (unhide D3))
    have R4 := hide ((hk2.block g4 (lt_of_heapO (unhide D4)) id).trans (unhide D4))
    clear hr hk2 hF H0 D3 D4
    have M := hide (Two.memL W m z (sA 100))
    have RG3 : Hid (∀ w' : World, w'.heap[g3]? = some (.cells TV 24 (0, 0)) → w'.rangeAt g3 0 TV.toList) := fun w' h j v hv => by rw [cell_of_block h, Nat.zero_add, ← Array.getElem?_toList]; exact hv
    have RG4 : Hid (∀ w' : World, w'.heap[g4]? = some (.cells DV 25 (0, 0)) → w'.rangeAt g4 0 DV.toList) := fun w' h j v hv => by rw [cell_of_block h, Nat.zero_add, ← Array.getElem?_toList]; exact hv
    have r3 := hide (unhide RG3 _ (unhide R3))
    have r4 := hide (unhide RG4 _ (unhide R4))
    have CS : Hid (Calls Try.prog 11 #[.pointer (some ⟨m, 0, none⟩), .int .i64 (lo : Int), .agg TV, .agg DV] w3 (OfPost W w3 m (fun A w G => Two W w G m z A (sA 100)) (Fr.new lo 100) t d (sA 100) (fun k => k = g3 ∨ k = g4))) := by
      show Calls _ _ _ _ _
      rw [unhide HTV, unhide HDV]
      exact sof_any (unhide M) (unhide H2) lo t d hlo (by decide)
    have CY : Hid (∀ w' G, Two W w' G m z (sA 100) (sA 100) → Calls Try.prog 12 #[.pointer (some ⟨z, 0, none⟩), .int .i64 (lo : Int), .agg TV, .agg DV] w' (YOfPost w' z (Fr.new lo 100) t d)) := fun w' G h => by
      rw [unhide HTV, unhide HDV]
      obtain ⟨F1, gs1, cz1, gl1, ads1, caps1, hrr, hh, -, -⟩ := h
      exact yof_any w' z 100 cz1 _ hrr.c0 lo t d hlo (by decide) (unhide HIN)
    have FOK : Hid ((ofS (Fr.new lo 100) t d).F.ok) := takeL_ok _ (new_ok hlo (by decide))
    clear HTV HDV HIN H2
    generalize (lo : Int) = zlo at *
    go_wp2_with (first | (with_reducible refine wpList_load_mid (by with_unfolding_all rfl) 24 _ (by with_unfolding_all rfl) g3 0 (by with_unfolding_all rfl) TV.toList _ (unhide r3) Try.underlying24 (by with_unfolding_all rfl) (by rw [Array.length_toList]; exact s49) ?_) | (with_reducible refine wpList_load_mid (by with_unfolding_all rfl) 25 _ (by with_unfolding_all rfl) g4 0 (by with_unfolding_all rfl) DV.toList _ (unhide r4) Try.underlying25 (by with_unfolding_all rfl) (by rw [Array.length_toList]; exact s8d) ?_))
    refine (unhide CS).mono ?_
    intro e w4 hpost
    unfold OfPost at hpost
    cases hB : ofB (Fr.new lo 100) t d with
    | true =>
      rw [if_pos hB] at hpost
      obtain ⟨b, rfl, h1, hs⟩ := hpost
      have HB := hide hB
      have R3' := hide ((hs g3 (Or.inl rfl)).trans (unhide R3))
      have R4' := hide ((hs g4 (Or.inr rfl)).trans (unhide R4))
      clear R3 R4 r3 r4 hs
      have r3 := hide (unhide RG3 _ (unhide R3'))
      have r4 := hide (unhide RG4 _ (unhide R4'))
      have HS := hide h1
      have CY2 := hide (unhide CY _ _ h1.st)
      clear h1 CS CY hB
      go_wp2_with (first | (with_reducible refine wpList_load_mid (by with_unfolding_all rfl) 24 _ (by with_unfolding_all rfl) g3 0 (by with_unfolding_all rfl) TV.toList _ (unhide r3) Try.underlying24 (by with_unfolding_all rfl) (by rw [Array.length_toList]; exact s49) ?_) | (with_reducible refine wpList_load_mid (by with_unfolding_all rfl) 25 _ (by with_unfolding_all rfl) g4 0 (by with_unfolding_all rfl) DV.toList _ (unhide r4) Try.underlying25 (by with_unfolding_all rfl) (by rw [Array.length_toList]; exact s8d) ?_))
      refine (unhide CY2).mono ?_
      intro e w5 hp2
      unfold YOfPost at hp2
      rw [if_pos (unhide HB)] at hp2
      obtain ⟨y, f, g, rfl, hy, hf, hk, -, -, -, -, -⟩ := hp2
      have CK := hide (like_any (Blk.keeps (unhide HS).rep hk id : SRep m (ofS (Fr.new lo 100) t d) w5 b) (unhide FOK) hy hf (fun e => by cases e))
      have KF := hide (((SHas.stay (unhide M) b _ _).sz _ _ (unhide HS)).trans' hk)
      clear hy hf hk HS CY2 FOK M HB
      go_wp2_with fail
      refine (unhide CK).mono ?_
      rintro e w6 ⟨rfl, hb⟩
      have KG := hide ((unhide KF).trans' (Keeps.of_below hb))
      clear hb KF CK
      go_wp2_with fail
      go_ret
      exact ⟨rfl, (unhide KG).below (Nat.le_refl _) (fun _ h => h.elim)⟩
    | false =>
      rw [if_neg (by rw [hB]; decide)] at hpost
      obtain ⟨rfl, h1, hs⟩ := hpost
      have HB := hide hB
      have R3' := hide ((hs g3 (Or.inl rfl)).trans (unhide R3))
      have R4' := hide ((hs g4 (Or.inr rfl)).trans (unhide R4))
      clear R3 R4 r3 r4 hs
      have r3 := hide (unhide RG3 _ (unhide R3'))
      have r4 := hide (unhide RG4 _ (unhide R4'))
      have CY2 := hide (unhide CY _ _ h1)
      have KF := hide h1.keeps
      clear h1 CS CY hB
      go_wp2_with (first | (with_reducible refine wpList_load_mid (by with_unfolding_all rfl) 24 _ (by with_unfolding_all rfl) g3 0 (by with_unfolding_all rfl) TV.toList _ (unhide r3) Try.underlying24 (by with_unfolding_all rfl) (by rw [Array.length_toList]; exact s49) ?_) | (with_reducible refine wpList_load_mid (by with_unfolding_all rfl) 25 _ (by with_unfolding_all rfl) g4 0 (by with_unfolding_all rfl) DV.toList _ (unhide r4) Try.underlying25 (by with_unfolding_all rfl) (by rw [Array.length_toList]; exact s8d) ?_))
      refine (unhide CY2).mono ?_
      intro e w5 hp2
      unfold YOfPost at hp2
      rw [if_neg (by rw [unhide HB]; decide)] at hp2
      obtain ⟨rfl, hk⟩ := hp2
      have KG := hide ((unhide KF).trans' hk)
      clear hk KF CY2 HB
      go_wp2_with fail
      go_ret
      exact ⟨rfl, (unhide KG).below (Nat.le_refl _) (fun _ h => h.elim)⟩

set_option maxRecDepth 100000 in
theorem lifted (os : Os) (started : os.Started) (H : Type) (enc : TypeId × Value → H) :
    ReturnsInHanded {} Try.checked os 3 .any (Rows.objectsOfSpec.pre6 enc Try.prog Try.f3 Rows.objectsOfRow.domain false) (Rows.objectsOfSpec.post enc Try.prog Try.f3 false true false false) := by
  refine law_frame (C := Try.checked) (ts := [24, 25, 3]) (tb := 4) (by kernel_rfl) started (by kernel_rfl) Try.func3 Try.params3 (by kernel_rfl) Try.underlying4 (by kernel_rfl) (by kernel_rfl) rfl ?_
    (ChangeSpec.witness6 (enc := enc) (C := Try.checked) false ⟨#[], #[.agg (iv .i64 (List.replicate 147 0)), .agg (iv .i64 (List.replicate 8 0)), .int .i64 0], []⟩ 8 (by kernel_rfl) (by kernel_rfl) (by kernel_rfl) (by kernel_rfl)) ?_
  · intro ds hd
    match ds, hd with
    | [d0, d1, d2], _ => rfl
  · intro W base args ds p hval hA
    obtain ⟨v0, vs0, d0, ds0, p0, q0, hargs, rfl, rfl, h0, r0⟩ := trodAll_cons hA
    obtain ⟨v1, vs1, d1, ds1, p1, q1, rfl, rfl, rfl, h1, r1⟩ := trodAll_cons r0
    obtain ⟨v2, vs2, d2, ds2, p2, q2, rfl, rfl, rfl, h2, r2⟩ := trodAll_cons r1
    obtain ⟨rfl, rfl, rfl⟩ := trodAll_nil r2
    obtain rfl : args = #[v0, v1, v2] := by cases args; simp_all
    obtain ⟨t, rfl, ht⟩ := open_tabO (hval 0 24 v0 rfl rfl) h0
    obtain ⟨d, rfl, hd⟩ := open_dirO (hval 1 25 v1 rfl rfl) h1
    obtain ⟨x, rfl, rfl, rfl, wx⟩ := open_int Try.underlying3 (hval 2 3 v2 rfl rfl) h2
    exact walk t d x ht hd wx W

theorem over : Rows.objectsOfRow.holds Try.pinned (OpenSpec.ofChange Rows.objectsOfSpec) :=
  OpenClaim.holds_of_wide 3 Try.f3 rfl rfl rfl rfl rfl rfl rfl ⟨rfl, rfl, rfl, rfl, rfl⟩ rfl rfl rfl rfl rfl (by kernel_rfl) Try.func3 (by kernel_rfl)
    (of_decide_eq_true (by kernel_rfl)) (by unfold Func.isWrapper; first | (rw [if_pos (by decide +kernel)]; kernel_rfl) | (rw [if_neg (by decide +kernel)]; exact ⟨rfl, rfl⟩))
    (fun os started H enc _ => lifted os started H enc)

end Go.Proofs.Ytjmgmbigbkllgaa.objectsOf
namespace Go.Proofs.Ytjmgmbigbkllgaa
theorem objectsOf_holds : Rows.ObjectsOfSaid := objectsOf.over
end Go.Proofs.Ytjmgmbigbkllgaa
