
/-
  Clone: a store like it, in a new block, on another memory; nothing that was there turns.
-/
import Derived.Test.YtinhnnnehhlceaaGreatPkUn
import Derived.Test.YtinhnnnehhlceaaGreatPkTel
namespace Go.Proofs.YtinhnnnehhlceaaGreat
open Go.ChangeShapes Go.WideShapes Go.ChangeAt Go.RowKit Go.Joins
set_option maxRecDepth 10000
set_option linter.unusedVariables false
set_option linter.unusedSimpArgs false

theorem SRep.rf {m : Nat} {S : Sto} {w : World} {b : Nat} (h : SRep m S w b) : w.rangeAt b 1 (frV S.F).toList := by
  have e : (frV S.F).toList = (List.range 1026).map (frF S.F) := by unfold frV; simp [tab]
  rw [e]; exact Blk.range h 1 1026 (by decide) _ fun j hj => stF_fr m S j hj
theorem SRep.rall {m : Nat} {S : Sto} {w : World} {b : Nat} (h : SRep m S w b) : w.rangeAt b 0 (tab 1477 (stF m S)).toList := by
  have e : (tab 1477 (stF m S)).toList = (List.range 1477).map (stF m S) := by simp [tab]
  rw [e]; exact Blk.range h 0 1477 (by decide) _ fun j hj => by rw [Nat.zero_add]
theorem sfclone_any {m : Nat} {S : Sto} {w : World} {b : Nat} (h : SRep m S w b) : Calls Tryz.prog 94 #[.pointer (some ⟨b, 1, none⟩)] w fun e w' =>
    ∃ b', e = .returned (.pointer (some ⟨b', 0, none⟩)) ∧ FRep w' b' S.F ∧ Keeps (fun _ => False) w w' ∧ w.heap.size ≤ b' := by
  have RF := hide h.rf
  have hs : (frV (Fr.new 0 0)).size = (frV S.F).size := by rw [frV_size, frV_size]
  have h1 : (frV S.F).all (·.oneCell') = true := frV_one S.F
  have hi : (Tryz.prog.info? 132).map (·.size) = some (frV S.F).size := by rw [frV_size]; exact frsize
  have hil : (Tryz.prog.info? 132).map (·.size) = some (frV S.F).toList.length := by rw [Array.length_toList]; exact hi
  have hzi : (Tryz.prog.info? 132).map (·.zero) = some (some (.agg (frV (Fr.new 0 0)))) := info_frames
  have HZ := hide hzi
  have HS := hide hs
  have H1 := hide h1
  have FR : Hid (∀ w', w'.heap[w.heap.size]? = some (.cells (frV S.F) 132 (0, 0)) → FRep w' w.heap.size S.F) := fun w' h => h
  clear h hs h1 hzi
  generalize frV S.F = c at *
  generalize frV (Fr.new 0 0) = z at *
  go_enter Tryz.func94, Tryz.ntmps94
  go_wp2_with (first | (with_reducible refine wpList_load_mid (by with_unfolding_all rfl) 132 _ (by with_unfolding_all rfl) b 1 (by with_unfolding_all rfl) c.toList _ (unhide RF) Tryz.underlying132 (by with_unfolding_all rfl) hil ?_) | (with_reducible refine wpList_allocZ (by with_unfolding_all rfl) 132 (by with_unfolding_all rfl) z (unhide HZ) ?_) | (with_reducible refine wpList_store_row (by with_unfolding_all rfl) 132 _ _ (by with_unfolding_all rfl) w.heap.size c (by with_unfolding_all rfl) (by with_unfolding_all rfl) 132 z (heap_new w _) hi (unhide HS) (unhide H1) ?_; rw [setRow_alloc]))
  go_ret
  exact ⟨w.heap.size, rfl, unhide FR _ (heap_new w _), (Keeps.refl _ _).alloc _, Nat.le_refl _⟩

theorem stF_m (m m' : Nat) (S : Sto) (j : Nat) (h : j ≠ 0) : stF m S j = stF m' S j := by unfold stF; rw [if_neg h, if_neg h]
/-- A new store on the memory in m2. -/
def SCloned (w : World) (S : Sto) (m2 : Nat) (e : Ending) (w' : World) : Prop := ∃ b2, e = .returned (.pointer (some ⟨b2, 0, none⟩)) ∧ SRep m2 S w' b2 ∧ Keeps (fun _ => False) w w' ∧ w.heap.size ≤ b2
set_option maxHeartbeats 4000000 in
theorem sclone_any {m : Nat} {S : Sto} {w : World} {b : Nat} (h : SRep m S w b) (m2 : Nat) :
    Calls Tryz.prog 30 #[.pointer (some ⟨b, 0, none⟩), .pointer (some ⟨m2, 0, none⟩)] w (SCloned w S m2) := by
  have RA := hide h.rall
  have ZS := hide zero_st
  have s1 := s1477 m S
  have s1l : (Tryz.prog.info? 134).map (·.size) = some (tab 1477 (stF m S)).toList.length := by rw [Array.length_toList]; exact s1
  have X1 := hide (sto_one m S)
  have SZ : Hid ((tab 1477 zstF).size = (tab 1477 (stF m S)).size) := by show _ = _; rw [tab_size, tab_size]
  have B1 : Hid (Blk (w.alloc (.cells (tab 1477 (stF m S)) 134)) w.heap.size 1477 134 (stF m S)) := Blk.of_tab (heap_new w _)
  have H := hide h
  have hblt := Blk.lt h
  have s1026 : (Tryz.prog.info? 132).map (·.size) = some (frV S.F).size := by rw [frV_size]; exact frsize
  have X2 := hide (frV_one S.F)
  clear h
  obtain ⟨CS, hCS⟩ : ∃ CS, CS = tab 1477 (stF m S) := ⟨_, rfl⟩
  rw [← hCS] at RA s1 s1l X1 SZ B1
  clear hCS
  generalize tab 1477 zstF = ZV at *
  go_enter Tryz.func30, Tryz.ntmps30
  go_upto_region 2 with (first | (with_reducible refine wpList_load_mid (by with_unfolding_all rfl) 134 _ (by with_unfolding_all rfl) b 0 (by with_unfolding_all rfl) CS.toList _ (unhide RA) Tryz.underlying134 (by with_unfolding_all rfl) s1l ?_) | (with_reducible refine wpList_allocZ (by with_unfolding_all rfl) 134 (by with_unfolding_all rfl) ZV (unhide ZS) ?_) | (with_reducible refine wpList_store_row (by with_unfolding_all rfl) 134 _ _ (by with_unfolding_all rfl) w.heap.size CS (by with_unfolding_all rfl) (by with_unfolding_all rfl) 134 ZV (heap_new w _) s1 (unhide SZ) (unhide X1) ?_; rw [setRow_alloc]))
  have KA : Hid (Keeps (fun _ => False) w (w.alloc (.cells CS 134))) := (Keeps.refl _ _).alloc _
  obtain ⟨b2, hb2⟩ : ∃ b2, b2 = w.heap.size := ⟨_, rfl⟩
  rw [← hb2] at B1 ⊢
  have HB2 := hide hb2
  have hne : b ≠ b2 := by omega
  clear hb2 s1 s1l X1 SZ RA ZS
  generalize w.alloc (.cells CS 134) = w1 at *
  have c0 : w1.cell? ⟨b2, 0, none⟩ = some (.pointer (some ⟨m, 0, none⟩)) := Blk.cell (unhide B1) 0 (by decide)
  have f0 : w1.frozen? ⟨b2, 0, none⟩ = false := Blk.free (unhide B1) 0
  have B2 := hide (Blk.set (unhide B1) 0 (.pointer (some ⟨m2, 0, none⟩)))
  have KB : Hid (Keeps (fun _ => False) w (w1.setCell ⟨b2, 0, none⟩ (.pointer (some ⟨m2, 0, none⟩)))) := (unhide KA).setCell_new (by rw [unhide HB2]; exact Nat.le_refl _) _
  clear KA
  go_upto_region 3 with fail
  clear c0 f0
  generalize w1.setCell ⟨b2, 0, none⟩ (.pointer (some ⟨m2, 0, none⟩)) = w2 at *
  have CF := hide (sfclone_any (Blk.keeps (unhide H) (unhide KB) id : SRep m S w2 b))
  go_wp2_with fail
  refine (unhide CF).mono ?_
  rintro e w3 ⟨b3, rfl, hf, hk, hl⟩
  have RF : Hid (w3.rangeAt b3 0 (frV S.F).toList) := fun j v hv => by rw [cell_of_block hf, Nat.zero_add, ← Array.getElem?_toList]; exact hv
  have B3 := hide (Blk.keeps (unhide B2) hk id)
  have KC := hide ((unhide KB).trans' hk)
  have TH : Hid (w3.there b2 1 (frV S.F).size) := by rw [frV_size]; exact Blk.there (unhide B3) 1 1026 (by decide)
  have BF : Hid (SRep m2 S (w3.setCells b2 1 (frV S.F).toList) b2) := by
    refine (Blk.sets (frV S.F).toList w3 _ 1 (unhide B3)).ext fun j hj => ?_
    rw [Array.length_toList, frV_size]
    by_cases c : 1 ≤ j ∧ j < 1 + 1026
    · obtain ⟨n, rfl⟩ : ∃ n, j = 1 + n := ⟨j - 1, by omega⟩
      rw [if_pos c, show 1 + n - 1 = n by omega, frV_get _ _ (by omega), stF_fr _ _ _ (by omega)]
    · rw [if_neg c]
      by_cases h0 : j = 0
      · subst h0; rw [upd_same]; rfl
      · rw [upd_other _ _ _ _ h0]; exact stF_m _ _ _ _ h0
  have KD : Hid (Keeps (fun _ => False) w (w3.setCells b2 1 (frV S.F).toList)) := Keeps.setCells (Or.inr (by rw [unhide HB2]; exact Nat.le_refl _)) _ _ _ (unhide KC)
  have s1026l : (Tryz.prog.info? 132).map (·.size) = some (frV S.F).toList.length := by rw [Array.length_toList]; exact s1026
  clear hf hk hl CF B1 B2 B3 KB KC
  generalize frV S.F = FV at *
  go_wp2_with (first | (with_reducible refine wpList_load_mid (by with_unfolding_all rfl) 132 _ (by with_unfolding_all rfl) b3 0 (by with_unfolding_all rfl) FV.toList _ (unhide RF) Tryz.underlying132 (by with_unfolding_all rfl) s1026l ?_) | (with_reducible refine wpList_store_mid (by with_unfolding_all rfl) 132 _ _ (by with_unfolding_all rfl) b2 1 FV (by with_unfolding_all rfl) (by with_unfolding_all rfl) (unhide TH) s1026 (unhide X2) ?_))
  go_ret
  exact ⟨b2, rfl, unhide BF, unhide KD, by rw [unhide HB2]; exact Nat.le_refl _⟩

end Go.Proofs.YtinhnnnehhlceaaGreat
