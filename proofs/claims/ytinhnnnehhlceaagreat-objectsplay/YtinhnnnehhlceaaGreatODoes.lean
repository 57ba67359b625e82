
/-
  does: any call of both stores: they tell the same, and stand for the same behind it.
-/
import Derived.Test.YtinhnnnehhlceaaGreatOPair
import Derived.Test.YtinhnnnehhlceaaGreatPkIn
namespace Go.Proofs.YtinhnnnehhlceaaGreat
open Go.ChangeShapes Go.WideShapes Go.ChangeAt Go.RowKit Go.Joins
set_option maxRecDepth 100000
set_option linter.unusedVariables false
set_option linter.unusedSimpArgs false

/-- Behind a call of both. -/
def Did (W : World) (P : Pl) (B N : Nat) (w : World) (G : Nat → Prop) (e : Ending) (w' : World) : Prop := e = .returned (.bool true) ∧ ∃ S K A, Fine S K A (B + 8) N ∧ PP W P S A S K A w' G ∧ Same G w w'
theorem dirV_put (d : Nat → Int) (j : Nat) (z : Int) (hj : j < 8) : (dirV d).setIfInBounds j (.int .i64 z) = dirV (upd d j z) := by
  refine Array.ext_getElem? fun i => ?_
  rw [Array.getElem?_setIfInBounds]
  have hs : ∀ e : Nat → Int, (dirV e)[i]? = if i < 8 then some (.int .i64 (e i)) else none := fun e => by
    rw [← Array.getElem?_toList, dirV_list, List.getElem?_map]
    by_cases h : i < 8
    · rw [if_pos h, List.getElem?_range h]; rfl
    · rw [if_neg h, List.getElem?_eq_none (by simpa using h)]; rfl
  rw [hs, hs, dirV_size]
  by_cases e : j = i
  · subst e; rw [if_pos rfl, if_pos hj, if_pos hj, upd_same]
  · rw [if_neg e, upd_other _ _ _ _ (Ne.symm e)]

set_option maxHeartbeats 32000000 in
theorem does_any {W w : World} {P : Pl} {S : Sto} {K : Nat → En} {A : Mm} {G : Nat → Prop} {B N : Nat} (h : PP W P S A S K A w G) (fi : Fine S K A B N) (hB : B ≤ 700) (o : OOp) (hfit : o.fits) (a : Option Addr) (l : List Int) (cap : Nat) (hl : ∀ w', Same G w w' → LiesI w' a l) (hll : l.length ≤ 80) :
    Calls Tryz.prog 57 #[.pointer (some ⟨P.b, 0, none⟩), .pointer (some ⟨P.y, 0, none⟩), .agg #[.int .i64 o.kind, .int .i64 o.id, .int .i64 o.word, .int .u64 o.v], .slice a l.length cap] w (Did W P B N w G) := by
  obtain ⟨kd, id, wd, v⟩ := o
  have hk64 : In64 kd := hfit.1
  have hi64 : In64 id := hfit.2.1
  have HW64 := hide (show In64 wd from hfit.2.2.1)
  have HV := hide (show InU v from hfit.2.2.2)
  show Calls Tryz.prog 57 #[.pointer (some ⟨P.b, 0, none⟩), .pointer (some ⟨P.y, 0, none⟩), .agg #[.int .i64 kd, .int .i64 id, .int .i64 wd, .int .u64 v], .slice a l.length cap] w (Did W P B N w G)
  have C12 := hide (okind_any kd hk64 12 (by decide) (by decide))
  have C60 := hide (okind_any id hi64 60 (by decide) (by decide))
  have k12 := kindN_lt kd 12 (by decide)
  have k60 := kindN_lt id 60 (by decide)
  obtain ⟨kk, hkk⟩ : ∃ kk, kk = kindN kd 12 := ⟨_, rfl⟩
  obtain ⟨ki, hki⟩ : ∃ ki, ki = kindN id 60 := ⟨_, rfl⟩
  rw [← hkk] at C12 k12
  rw [← hki] at C60 k60
  have FI := hide fi
  have HL := hide hl
  have O0 := hide ((Held.start (PP.stay W P S A S K A) h).alloc (PP.stay W P S A S K A) (.cells #[.int .i64 kd, .int .i64 id, .int .i64 wd, .int .u64 v] 108))
  clear hkk hki fi hl h hfit hk64 hi64
  obtain ⟨n, hnn⟩ : ∃ n, n = l.length := ⟨_, rfl⟩
  rw [← hnn] at hll ⊢
  have HNN := hide hnn
  clear hnn
  have s8 := s8_d8' dirF
  have X8 := hide (dirV_one dirF)
  have Z8 : Hid ((Tryz.prog.info? 44).map (·.zero) = some (some (.agg (dirV fun _ => 0)))) := by show _ = _; kernel_rfl
  have SZ : Hid ((dirV fun _ => 0).size = (dirV dirF).size) := by show _ = _; rw [dirV_size, dirV_size]
  generalize (dirV fun _ => 0) = ZD at *
  go_enter Tryz.func57, Tryz.ntmps57
  go_upto_region 1 with fail
  obtain ⟨g6, hg6⟩ : ∃ g6, g6 = w.heap.size := ⟨_, rfl⟩
  rw [← hg6] at O0 ⊢
  clear hg6
  generalize w.alloc (.cells #[.int .i64 kd, .int .i64 id, .int .i64 wd, .int .u64 v] 108) = w0 at *
  go_wp2_with fail
  refine (dir_any w0).mono ?_
  rintro e w1 ⟨rfl, hb⟩
  have O1 := hide (((unhide O0).below (PP.stay W P S A S K A) hb).alloc (PP.stay W P S A S K A) (.cells (dirV dirF) 44))
  clear hb O0
  obtain ⟨DV, hDV⟩ : ∃ DV, DV = dirV dirF := ⟨_, rfl⟩
  rw [← hDV] at O1 s8 X8 SZ ⊢
  have HDV := hide hDV
  clear hDV
  go_upto_region 2 with (first | (with_reducible refine wpList_allocZ (by with_unfolding_all rfl) 44 (by with_unfolding_all rfl) ZD (unhide Z8) ?_) | (with_reducible refine wpList_store_row (by with_unfolding_all rfl) 44 _ _ (by with_unfolding_all rfl) w1.heap.size DV (by with_unfolding_all rfl) (by with_unfolding_all rfl) 44 ZD (heap_new w1 _) s8 (unhide SZ) (unhide X8) ?_; rw [setRow_alloc]))
  obtain ⟨g9, hg9⟩ : ∃ g9, g9 = w1.heap.size := ⟨_, rfl⟩
  rw [← hg9] at O1 ⊢
  clear hg9 s8 X8 Z8 SZ
  generalize w1.alloc (.cells DV 44) = w1b at *
  rw [unhide HDV] at O1
  clear HDV
  have OO : Hid (Held W (PP W P S A S K A) w w1b G [(g6, .cells #[.int .i64 kd, .int .i64 id, .int .i64 wd, .int .u64 v] 108), (g9, .cells (dirV dirF) 44)]) := (unhide O1).less (PP.stay W P S A S K A) (fun p hp => by
    rcases List.mem_cons.1 hp with h | h
    · exact List.mem_cons_of_mem _ (by rw [h]; exact List.mem_cons_self)
    · rcases List.mem_cons.1 h with h | h
      · rw [h]; exact List.mem_cons_self
      · cases h)
  have HNE : Hid (g6 ≠ g9) := fun e => by
    have a1 := (unhide O1).at g6 (.cells #[.int .i64 kd, .int .i64 id, .int .i64 wd, .int .u64 v] 108) (by simp)
    rw [e, (unhide O1).at g9 (.cells (dirV dirF) 44) (by simp)] at a1
    simp at a1
  clear O1
  have SC : Hid (∀ dd S1 A1 S2 K2 A2 w', Held W (PP W P S1 A1 S2 K2 A2) w w' G [(g6, .cells #[.int .i64 kd, .int .i64 id, .int .i64 wd, .int .u64 v] 108), (g9, .cells (dirV dd) 44)] → w'.cell? ⟨g6, 0, none⟩ = some (.int .i64 kd) ∧ w'.cell? ⟨g6, 1, none⟩ = some (.int .i64 id) ∧ w'.cell? ⟨g6, 2, none⟩ = some (.int .i64 wd) ∧ w'.cell? ⟨g6, 3, none⟩ = some (.int .u64 v)) := fun dd S1 A1 S2 K2 A2 w' hO => by
    have kg := hO.at g6 (.cells #[.int .i64 kd, .int .i64 id, .int .i64 wd, .int .u64 v] 108) (by simp)
    refine ⟨?_, ?_, ?_, ?_⟩ <;> rw [cell_of_block kg] <;> rfl
  go_wp2_with fail
  go_loopw [10] (fun q wr => ∃ j : Nat, j ≤ 8 ∧ q = .int .i64 j ∧ ∃ dd, Held W (PP W P S A S K A) w wr G [(g6, .cells #[.int .i64 kd, .int .i64 id, .int .i64 wd, .int .u64 v] 108), (g9, .cells (dirV dd) 44)]) (fun q _ => 8 - (intOf q).toNat)
  case atStart => exact ⟨0, by omega, rfl, _, unhide OO⟩
  case round =>
    clear OO
    obtain ⟨j, hj, rfl, dd, hh⟩ := hrel
    have O2 := hide hh
    clear hh
    by_cases hlt : j < 8
    · have hj8 : (j : Int) < 8 := by omega
      obtain ⟨c0, c1, c2, c3⟩ := unhide SC _ _ _ _ _ _ _ (unhide O2)
      have b9 := (unhide O2).at g9 (.cells (dirV dd) 44) (by simp)
      have c9 : wr.cell? ⟨g9, j, none⟩ = some (.int .i64 (dd j)) := by
        rw [cell_of_block b9, ← Array.getElem?_toList, dirV_list, List.getElem?_map, List.getElem?_range hlt]; rfl
      have f9 : wr.frozen? ⟨g9, j, none⟩ = false := unfrozen_of_block b9 _
      have O3 : Hid (∀ q, Held W (PP W P S A S K A) w (wr.setCell ⟨g9, j, none⟩ (.int .i64 q)) G [(g6, .cells #[.int .i64 kd, .int .i64 id, .int .i64 wd, .int .u64 v] 108), (g9, .cells (dirV (upd dd j q)) 44)]) := fun q => by
        have := (unhide O2).cellset (PP.stay W P S A S K A) g9 (dirV dd) 44 (by simp) j (.int .i64 q)
        rw [dirV_put dd j q hlt] at this
        refine this.less (PP.stay W P S A S K A) (fun p hp => ?_)
        rcases List.mem_cons.1 hp with h | h
        · subst h; exact List.mem_cons_of_mem _ (List.mem_filter.2 ⟨List.mem_cons_self, by simpa using unhide HNE⟩)
        · rcases List.mem_cons.1 h with h | h
          · rw [h]; exact List.mem_cons_self
          · cases h
      clear O2 b9
      generalize dd j = d0 at *
      go_upto_region 6 with (first | (go_at_call 48; refine (unhide C60 _).mono ?_; rintro e wr ⟨rfl, rfl⟩) | fail)
      have O4 := hide (unhide O3 ((ki : Int) + (j : Int)))
      clear O3 c0 c1 c2 c3 c9 f9
      generalize wr.setCell _ _ = w4 at *
      by_cases hn8 : 8 ≤ n
      · have hn81 : (8 : Int) ≤ (n : Int) := by omega
        obtain ⟨p, hp⟩ : ∃ p, p = n - 8 + j := ⟨_, rfl⟩
        have hpn : (n : Int) - 8 + (j : Int) = (p : Int) := by omega
        have hpl : p < l.length := by have := unhide HNN; omega
        have hpn2 : (p : Int) < (n : Int) := by omega
        obtain ⟨x, off, rfl, hx⟩ : ∃ x off, a = some ⟨x, off, none⟩ ∧ ∀ i, i < l.length → w4.cell? ⟨x, off + i, none⟩ = some (.int .i64 (l.getD i 0)) := by
          rcases unhide HL w4 (unhide O4).2.2 with h | h
          · rw [h] at hpl; simp at hpl
          · exact h
        have cx := hx p hpl
        have b9 := (unhide O4).at g9 _ (List.mem_cons_of_mem _ List.mem_cons_self)
        obtain ⟨d2, hd2⟩ : ∃ d2, d2 = upd dd j ((ki : Int) + (j : Int)) := ⟨_, rfl⟩
        rw [← hd2] at b9 O4
        have c9 : w4.cell? ⟨g9, j, none⟩ = some (.int .i64 (d2 j)) := by
          rw [cell_of_block b9, ← Array.getElem?_toList, dirV_list, List.getElem?_map, List.getElem?_range hlt]; rfl
        have f9 : w4.frozen? ⟨g9, j, none⟩ = false := unfrozen_of_block b9 _
        have O5 : Hid (∀ q, Held W (PP W P S A S K A) w (w4.setCell ⟨g9, j, none⟩ (.int .i64 q)) G [(g6, .cells #[.int .i64 kd, .int .i64 id, .int .i64 wd, .int .u64 v] 108), (g9, .cells (dirV (upd d2 j q)) 44)]) := fun q => by
          have := (unhide O4).cellset (PP.stay W P S A S K A) g9 (dirV d2) 44 (by simp) j (.int .i64 q)
          rw [dirV_put d2 j q hlt] at this
          refine this.less (PP.stay W P S A S K A) (fun p hp => ?_)
          rcases List.mem_cons.1 hp with h | h
          · subst h; exact List.mem_cons_of_mem _ (List.mem_filter.2 ⟨List.mem_cons_self, by simpa using unhide HNE⟩)
          · rcases List.mem_cons.1 h with h | h
            · rw [h]; exact List.mem_cons_self
            · cases h
        clear O4 b9 hd2 hx hp
        generalize d2 j = d0' at *
        have O6 := hide (unhide O5 (l.getD p 0))
        generalize l.getD p 0 = lp at *
        clear O5
        go_wp2_with fail
        go_roundw
        case rel => exact ⟨j + 1, by omega, by go_num, _, unhide O6⟩
        case measure => simp [intOf]; omega
      · have hn81 : ¬ ((8 : Int) ≤ (n : Int)) := by omega
        go_wp2_with fail
        go_roundw
        case rel => exact ⟨j + 1, by omega, by go_num, _, unhide O4⟩
        case measure => simp [intOf]; omega
    · have ej : j = 8 := by omega
      subst ej
      obtain ⟨c0, c1, c2, c3⟩ := unhide SC _ _ _ _ _ _ _ (unhide O2)
      have SC2 := hide (unhide SC dd)
      clear SC
      have SC := SC2
      clear SC2 C60 k60 HL hlt hj HNE
      go_upto_region 8 with fail
      generalize ((8 : Nat) : Int) = last8 at *
      generalize (n : Int) = nlast at *
      generalize wr = w2 at *
      go_wp2_with fail
      refine (unhide C12 _).mono ?_
      rintro e w2 ⟨rfl, rfl⟩
      clear C12
      rcases (show kk = 0 ∨ kk = 1 ∨ kk = 2 ∨ kk = 3 ∨ kk = 4 ∨ kk = 5 ∨ kk = 6 ∨ kk = 7 ∨ kk = 8 ∨ kk = 9 ∨ kk = 10 ∨ kk = 11 by omega) with rfl | rfl | rfl | rfl | rfl | rfl | rfl | rfl | rfl | rfl | rfl | rfl
      · skip
        have FI2 := hide ((unhide FI).set id wd v (unhide HV))
        go_upto_region 13 with fail
        have O3 := hide ((unhide O2).drew (PP.stay W P _ _ _ _ _))
        clear c0 c1 c2 c3
        refine wp_region_noPanic ?_
        refine wp_region_held_drew (S := fun w' => w'.cell? ⟨g6, 1, none⟩ = some (.int .i64 id) ∧ w'.cell? ⟨g6, 2, none⟩ = some (.int .i64 wd) ∧ w'.cell? ⟨g6, 3, none⟩ = some (.int .u64 v)) (by kernel_rfl) (unhide SC _ _ _ _ _ _ (unhide O3)).2 (fun hHeld => ?_)
        clear O2
        generalize w2.drew = w3 at *
        refine take_at 0 49 (v := ?_) rfl rfl (by kernel_rfl) (by kernel_rfl) (by kernel_rfl) (Or.inl ⟨by rfl, ?_⟩) hHeld ?_
        rotate_left
        · intro w hSw; go_simp; with_reducible rfl
        simp only [Act.put, List.setIfInBounds_toArray, List.set_cons_zero, List.set_cons_succ]
        refine take_at 1 50 (v := ?_) rfl rfl (by kernel_rfl) (by kernel_rfl) (by kernel_rfl) (Or.inl ⟨by rfl, ?_⟩) hHeld ?_
        rotate_left
        · intro w hSw; go_simp; with_reducible rfl
        simp only [Act.put, List.setIfInBounds_toArray, List.set_cons_zero, List.set_cons_succ]
        refine take_at 2 51 (v := ?_) rfl rfl (by kernel_rfl) (by kernel_rfl) (by kernel_rfl) (Or.inl ⟨by rfl, ?_⟩) hHeld ?_
        rotate_left
        · intro w hSw; obtain ⟨s1, s2, s3⟩ := hSw; go_simp; with_reducible rfl
        simp only [Act.put, List.setIfInBounds_toArray, List.set_cons_zero, List.set_cons_succ]
        refine take_at 3 52 (v := ?_) rfl rfl (by kernel_rfl) (by kernel_rfl) (by kernel_rfl) (Or.inl ⟨by rfl, ?_⟩) hHeld ?_
        rotate_left
        · intro w hSw; go_simp; with_reducible rfl
        simp only [Act.put, List.setIfInBounds_toArray, List.set_cons_zero, List.set_cons_succ]
        refine take_at 4 53 (v := ?_) rfl rfl (by kernel_rfl) (by kernel_rfl) (by kernel_rfl) (Or.inl ⟨by rfl, ?_⟩) hHeld ?_
        rotate_left
        · intro w hSw; obtain ⟨s1, s2, s3⟩ := hSw; go_simp; with_reducible rfl
        simp only [Act.put, List.setIfInBounds_toArray, List.set_cons_zero, List.set_cons_succ]
        refine take_at 5 54 (v := ?_) rfl rfl (by kernel_rfl) (by kernel_rfl) (by kernel_rfl) (Or.inl ⟨by rfl, ?_⟩) hHeld ?_
        rotate_left
        · intro w hSw; go_simp; with_reducible rfl
        simp only [Act.put, List.setIfInBounds_toArray, List.set_cons_zero, List.set_cons_succ]
        refine take_at 6 55 (v := ?_) rfl rfl (by kernel_rfl) (by kernel_rfl) (by kernel_rfl) (Or.inl ⟨by rfl, ?_⟩) hHeld ?_
        rotate_left
        · intro w hSw; obtain ⟨s1, s2, s3⟩ := hSw; go_simp; with_reducible rfl
        simp only [Act.put, List.setIfInBounds_toArray, List.set_cons_zero, List.set_cons_succ]
        refine take_at 8 57 (v := ?_) rfl rfl (by kernel_rfl) (by kernel_rfl) (by kernel_rfl) (Or.inl ⟨by rfl, ?_⟩) hHeld ?_
        rotate_left
        · intro w hSw; go_simp; with_reducible rfl
        simp only [Act.put, List.setIfInBounds_toArray, List.set_cons_zero, List.set_cons_succ]
        refine take_at 9 58 (v := ?_) rfl rfl (by kernel_rfl) (by kernel_rfl) (by kernel_rfl) (Or.inl ⟨by rfl, ?_⟩) hHeld ?_
        rotate_left
        · intro w hSw; go_simp; with_reducible rfl
        simp only [Act.put, List.setIfInBounds_toArray, List.set_cons_zero, List.set_cons_succ]
        refine take_at 10 59 (v := ?_) rfl rfl (by kernel_rfl) (by kernel_rfl) (by kernel_rfl) (Or.inl ⟨by rfl, ?_⟩) hHeld ?_
        rotate_left
        · intro w hSw; obtain ⟨s1, s2, s3⟩ := hSw; go_simp; with_reducible rfl
        simp only [Act.put, List.setIfInBounds_toArray, List.set_cons_zero, List.set_cons_succ]
        refine take_at 11 60 (v := ?_) rfl rfl (by kernel_rfl) (by kernel_rfl) (by kernel_rfl) (Or.inl ⟨by rfl, ?_⟩) hHeld ?_
        rotate_left
        · intro w hSw; go_simp; with_reducible rfl
        simp only [Act.put, List.setIfInBounds_toArray, List.set_cons_zero, List.set_cons_succ]
        refine take_at 12 61 (v := ?_) rfl rfl (by kernel_rfl) (by kernel_rfl) (by kernel_rfl) (Or.inl ⟨by rfl, ?_⟩) hHeld ?_
        rotate_left
        · intro w hSw; obtain ⟨s1, s2, s3⟩ := hSw; go_simp; with_reducible rfl
        simp only [Act.put, List.setIfInBounds_toArray, List.set_cons_zero, List.set_cons_succ]
        refine take_at 13 62 (v := ?_) rfl rfl (by kernel_rfl) (by kernel_rfl) (by kernel_rfl) (Or.inl ⟨by rfl, ?_⟩) hHeld ?_
        rotate_left
        · intro w hSw; go_simp; with_reducible rfl
        simp only [Act.put, List.setIfInBounds_toArray, List.set_cons_zero, List.set_cons_succ]
        refine take_at 14 63 (v := ?_) rfl rfl (by kernel_rfl) (by kernel_rfl) (by kernel_rfl) (Or.inl ⟨by rfl, ?_⟩) hHeld ?_
        rotate_left
        · intro w hSw; obtain ⟨s1, s2, s3⟩ := hSw; go_simp; with_reducible rfl
        simp only [Act.put, List.setIfInBounds_toArray, List.set_cons_zero, List.set_cons_succ]
        refine wpAnyH_ready (rs := [7]) (by kernel_rfl) (by simp) ?_
        refine AllReadyH.cons rfl (fun K2 hK => ?_) AllReadyH.nil
        go_simp
        refine ((unhide O3).st.setL (unhide FI).ok (ok_mono (unhide FI).am (by omega)) id wd v (unhide HV)).mono ?_
        rintro e w4 ⟨rfl, h1, h2⟩
        have O4 := hide ((unhide O3).call (St' := PP W P (S.setS A id wd v) (S.setM A id wd v) S K A) h1 h2)
        go_wp2_with fail
        clear hHeld
        refine hK.out _ _ (unhide SC _ _ _ _ _ _ (unhide O4)).2 (fun hNew => ?_)
        clear hK K2 h1 h2 O3
        refine wpAnyH_ready (rs := [15]) (by kernel_rfl) (by simp) ?_
        refine AllReadyH.cons rfl (fun K2 hK => ?_) AllReadyH.nil
        go_simp
        refine ((unhide O4).st.setR (unhide FI).mks (unhide FI).ok (ok_mono (unhide FI).am (by omega)) id wd v (unhide HV)).mono ?_
        rintro e w5 ⟨rfl, h1, h2⟩
        have O5 := hide ((unhide O4).call (St' := PP W P (S.setS A id wd v) (S.setM A id wd v) (S.setS A id wd v) K (S.setM A id wd v)) h1 h2)
        go_wp2_with fail
        refine hK.out _ _ (unhide SC _ _ _ _ _ _ (unhide O5)).2 (fun hHeld => ?_)
        clear hK K2 h1 h2 O4 hNew
        generalize S.setE A id wd v = E at *
        refine take_at 16 65 (v := ?_) rfl rfl (by kernel_rfl) (by kernel_rfl) (by kernel_rfl) (Or.inl ⟨by rfl, ?_⟩) hHeld ?_
        rotate_left
        · intro w hSw; go_simp; with_reducible rfl
        simp only [Act.put, List.setIfInBounds_toArray, List.set_cons_zero, List.set_cons_succ]
        refine take_at 17 8 (v := ?_) rfl rfl (by kernel_rfl) (by kernel_rfl) (by kernel_rfl) (Or.inl ⟨by rfl, ?_⟩) hHeld ?_
        rotate_left
        · intro w hSw; go_simp; with_reducible rfl
        simp only [Act.put, List.setIfInBounds_toArray, List.set_cons_zero, List.set_cons_succ]
        refine wpAnyH_done (by kernel_rfl) ?_ _
        refine NoPanic.normal ?_
        clear hHeld
        go_wp2_with fail
        go_ret
        exact ⟨rfl, _, _, _, unhide FI2, ((unhide O5).less (PP.stay W P _ _ _ _ _) (L' := []) (fun p hp => by cases hp)).done (PP.stay W P _ _ _ _ _) (.bool true) |>.2.1, (unhide O5).2.2⟩
      · skip
        have FI2 := hide ((unhide FI).set id wd v (unhide HV))
        go_upto_region 13 with fail
        have O3 := hide ((unhide O2).drew (PP.stay W P _ _ _ _ _))
        clear c0 c1 c2 c3
        refine wp_region_noPanic ?_
        refine wp_region_held_drew (S := fun w' => w'.cell? ⟨g6, 1, none⟩ = some (.int .i64 id) ∧ w'.cell? ⟨g6, 2, none⟩ = some (.int .i64 wd) ∧ w'.cell? ⟨g6, 3, none⟩ = some (.int .u64 v)) (by kernel_rfl) (unhide SC _ _ _ _ _ _ (unhide O3)).2 (fun hHeld => ?_)
        clear O2
        generalize w2.drew = w3 at *
        refine take_at 0 49 (v := ?_) rfl rfl (by kernel_rfl) (by kernel_rfl) (by kernel_rfl) (Or.inl ⟨by rfl, ?_⟩) hHeld ?_
        rotate_left
        · intro w hSw; go_simp; with_reducible rfl
        simp only [Act.put, List.setIfInBounds_toArray, List.set_cons_zero, List.set_cons_succ]
        refine take_at 1 50 (v := ?_) rfl rfl (by kernel_rfl) (by kernel_rfl) (by kernel_rfl) (Or.inl ⟨by rfl, ?_⟩) hHeld ?_
        rotate_left
        · intro w hSw; go_simp; with_reducible rfl
        simp only [Act.put, List.setIfInBounds_toArray, List.set_cons_zero, List.set_cons_succ]
        refine take_at 2 51 (v := ?_) rfl rfl (by kernel_rfl) (by kernel_rfl) (by kernel_rfl) (Or.inl ⟨by rfl, ?_⟩) hHeld ?_
        rotate_left
        · intro w hSw; obtain ⟨s1, s2, s3⟩ := hSw; go_simp; with_reducible rfl
        simp only [Act.put, List.setIfInBounds_toArray, List.set_cons_zero, List.set_cons_succ]
        refine take_at 3 52 (v := ?_) rfl rfl (by kernel_rfl) (by kernel_rfl) (by kernel_rfl) (Or.inl ⟨by rfl, ?_⟩) hHeld ?_
        rotate_left
        · intro w hSw; go_simp; with_reducible rfl
        simp only [Act.put, List.setIfInBounds_toArray, List.set_cons_zero, List.set_cons_succ]
        refine take_at 4 53 (v := ?_) rfl rfl (by kernel_rfl) (by kernel_rfl) (by kernel_rfl) (Or.inl ⟨by rfl, ?_⟩) hHeld ?_
        rotate_left
        · intro w hSw; obtain ⟨s1, s2, s3⟩ := hSw; go_simp; with_reducible rfl
        simp only [Act.put, List.setIfInBounds_toArray, List.set_cons_zero, List.set_cons_succ]
        refine take_at 5 54 (v := ?_) rfl rfl (by kernel_rfl) (by kernel_rfl) (by kernel_rfl) (Or.inl ⟨by rfl, ?_⟩) hHeld ?_
        rotate_left
        · intro w hSw; go_simp; with_reducible rfl
        simp only [Act.put, List.setIfInBounds_toArray, List.set_cons_zero, List.set_cons_succ]
        refine take_at 6 55 (v := ?_) rfl rfl (by kernel_rfl) (by kernel_rfl) (by kernel_rfl) (Or.inl ⟨by rfl, ?_⟩) hHeld ?_
        rotate_left
        · intro w hSw; obtain ⟨s1, s2, s3⟩ := hSw; go_simp; with_reducible rfl
        simp only [Act.put, List.setIfInBounds_toArray, List.set_cons_zero, List.set_cons_succ]
        refine take_at 8 57 (v := ?_) rfl rfl (by kernel_rfl) (by kernel_rfl) (by kernel_rfl) (Or.inl ⟨by rfl, ?_⟩) hHeld ?_
        rotate_left
        · intro w hSw; go_simp; with_reducible rfl
        simp only [Act.put, List.setIfInBounds_toArray, List.set_cons_zero, List.set_cons_succ]
        refine take_at 9 58 (v := ?_) rfl rfl (by kernel_rfl) (by kernel_rfl) (by kernel_rfl) (Or.inl ⟨by rfl, ?_⟩) hHeld ?_
        rotate_left
        · intro w hSw; go_simp; with_reducible rfl
        simp only [Act.put, List.setIfInBounds_toArray, List.set_cons_zero, List.set_cons_succ]
        refine take_at 10 59 (v := ?_) rfl rfl (by kernel_rfl) (by kernel_rfl) (by kernel_rfl) (Or.inl ⟨by rfl, ?_⟩) hHeld ?_
        rotate_left
        · intro w hSw; obtain ⟨s1, s2, s3⟩ := hSw; go_simp; with_reducible rfl
        simp only [Act.put, List.setIfInBounds_toArray, List.set_cons_zero, List.set_cons_succ]
        refine take_at 11 60 (v := ?_) rfl rfl (by kernel_rfl) (by kernel_rfl) (by kernel_rfl) (Or.inl ⟨by rfl, ?_⟩) hHeld ?_
        rotate_left
        · intro w hSw; go_simp; with_reducible rfl
        simp only [Act.put, List.setIfInBounds_toArray, List.set_cons_zero, List.set_cons_succ]
        refine take_at 12 61 (v := ?_) rfl rfl (by kernel_rfl) (by kernel_rfl) (by kernel_rfl) (Or.inl ⟨by rfl, ?_⟩) hHeld ?_
        rotate_left
        · intro w hSw; obtain ⟨s1, s2, s3⟩ := hSw; go_simp; with_reducible rfl
        simp only [Act.put, List.setIfInBounds_toArray, List.set_cons_zero, List.set_cons_succ]
        refine take_at 13 62 (v := ?_) rfl rfl (by kernel_rfl) (by kernel_rfl) (by kernel_rfl) (Or.inl ⟨by rfl, ?_⟩) hHeld ?_
        rotate_left
        · intro w hSw; go_simp; with_reducible rfl
        simp only [Act.put, List.setIfInBounds_toArray, List.set_cons_zero, List.set_cons_succ]
        refine take_at 14 63 (v := ?_) rfl rfl (by kernel_rfl) (by kernel_rfl) (by kernel_rfl) (Or.inl ⟨by rfl, ?_⟩) hHeld ?_
        rotate_left
        · intro w hSw; obtain ⟨s1, s2, s3⟩ := hSw; go_simp; with_reducible rfl
        simp only [Act.put, List.setIfInBounds_toArray, List.set_cons_zero, List.set_cons_succ]
        refine wpAnyH_ready (rs := [7]) (by kernel_rfl) (by simp) ?_
        refine AllReadyH.cons rfl (fun K2 hK => ?_) AllReadyH.nil
        go_simp
        refine ((unhide O3).st.setL (unhide FI).ok (ok_mono (unhide FI).am (by omega)) id wd v (unhide HV)).mono ?_
        rintro e w4 ⟨rfl, h1, h2⟩
        have O4 := hide ((unhide O3).call (St' := PP W P (S.setS A id wd v) (S.setM A id wd v) S K A) h1 h2)
        go_wp2_with fail
        clear hHeld
        refine hK.out _ _ (unhide SC _ _ _ _ _ _ (unhide O4)).2 (fun hNew => ?_)
        clear hK K2 h1 h2 O3
        refine wpAnyH_ready (rs := [15]) (by kernel_rfl) (by simp) ?_
        refine AllReadyH.cons rfl (fun K2 hK => ?_) AllReadyH.nil
        go_simp
        refine ((unhide O4).st.setR (unhide FI).mks (unhide FI).ok (ok_mono (unhide FI).am (by omega)) id wd v (unhide HV)).mono ?_
        rintro e w5 ⟨rfl, h1, h2⟩
        have O5 := hide ((unhide O4).call (St' := PP W P (S.setS A id wd v) (S.setM A id wd v) (S.setS A id wd v) K (S.setM A id wd v)) h1 h2)
        go_wp2_with fail
        refine hK.out _ _ (unhide SC _ _ _ _ _ _ (unhide O5)).2 (fun hHeld => ?_)
        clear hK K2 h1 h2 O4 hNew
        generalize S.setE A id wd v = E at *
        refine take_at 16 65 (v := ?_) rfl rfl (by kernel_rfl) (by kernel_rfl) (by kernel_rfl) (Or.inl ⟨by rfl, ?_⟩) hHeld ?_
        rotate_left
        · intro w hSw; go_simp; with_reducible rfl
        simp only [Act.put, List.setIfInBounds_toArray, List.set_cons_zero, List.set_cons_succ]
        refine take_at 17 8 (v := ?_) rfl rfl (by kernel_rfl) (by kernel_rfl) (by kernel_rfl) (Or.inl ⟨by rfl, ?_⟩) hHeld ?_
        rotate_left
        · intro w hSw; go_simp; with_reducible rfl
        simp only [Act.put, List.setIfInBounds_toArray, List.set_cons_zero, List.set_cons_succ]
        refine wpAnyH_done (by kernel_rfl) ?_ _
        refine NoPanic.normal ?_
        clear hHeld
        go_wp2_with fail
        go_ret
        exact ⟨rfl, _, _, _, unhide FI2, ((unhide O5).less (PP.stay W P _ _ _ _ _) (L' := []) (fun p hp => by cases hp)).done (PP.stay W P _ _ _ _ _) (.bool true) |>.2.1, (unhide O5).2.2⟩
      · skip
        have FI2 := hide ((unhide FI).set id wd v (unhide HV))
        go_upto_region 13 with fail
        have O3 := hide ((unhide O2).drew (PP.stay W P _ _ _ _ _))
        clear c0 c1 c2 c3
        refine wp_region_noPanic ?_
        refine wp_region_held_drew (S := fun w' => w'.cell? ⟨g6, 1, none⟩ = some (.int .i64 id) ∧ w'.cell? ⟨g6, 2, none⟩ = some (.int .i64 wd) ∧ w'.cell? ⟨g6, 3, none⟩ = some (.int .u64 v)) (by kernel_rfl) (unhide SC _ _ _ _ _ _ (unhide O3)).2 (fun hHeld => ?_)
        clear O2
        generalize w2.drew = w3 at *
        refine take_at 0 49 (v := ?_) rfl rfl (by kernel_rfl) (by kernel_rfl) (by kernel_rfl) (Or.inl ⟨by rfl, ?_⟩) hHeld ?_
        rotate_left
        · intro w hSw; go_simp; with_reducible rfl
        simp only [Act.put, List.setIfInBounds_toArray, List.set_cons_zero, List.set_cons_succ]
        refine take_at 1 50 (v := ?_) rfl rfl (by kernel_rfl) (by kernel_rfl) (by kernel_rfl) (Or.inl ⟨by rfl, ?_⟩) hHeld ?_
        rotate_left
        · intro w hSw; go_simp; with_reducible rfl
        simp only [Act.put, List.setIfInBounds_toArray, List.set_cons_zero, List.set_cons_succ]
        refine take_at 2 51 (v := ?_) rfl rfl (by kernel_rfl) (by kernel_rfl) (by kernel_rfl) (Or.inl ⟨by rfl, ?_⟩) hHeld ?_
        rotate_left
        · intro w hSw; obtain ⟨s1, s2, s3⟩ := hSw; go_simp; with_reducible rfl
        simp only [Act.put, List.setIfInBounds_toArray, List.set_cons_zero, List.set_cons_succ]
        refine take_at 3 52 (v := ?_) rfl rfl (by kernel_rfl) (by kernel_rfl) (by kernel_rfl) (Or.inl ⟨by rfl, ?_⟩) hHeld ?_
        rotate_left
        · intro w hSw; go_simp; with_reducible rfl
        simp only [Act.put, List.setIfInBounds_toArray, List.set_cons_zero, List.set_cons_succ]
        refine take_at 4 53 (v := ?_) rfl rfl (by kernel_rfl) (by kernel_rfl) (by kernel_rfl) (Or.inl ⟨by rfl, ?_⟩) hHeld ?_
        rotate_left
        · intro w hSw; obtain ⟨s1, s2, s3⟩ := hSw; go_simp; with_reducible rfl
        simp only [Act.put, List.setIfInBounds_toArray, List.set_cons_zero, List.set_cons_succ]
        refine take_at 5 54 (v := ?_) rfl rfl (by kernel_rfl) (by kernel_rfl) (by kernel_rfl) (Or.inl ⟨by rfl, ?_⟩) hHeld ?_
        rotate_left
        · intro w hSw; go_simp; with_reducible rfl
        simp only [Act.put, List.setIfInBounds_toArray, List.set_cons_zero, List.set_cons_succ]
        refine take_at 6 55 (v := ?_) rfl rfl (by kernel_rfl) (by kernel_rfl) (by kernel_rfl) (Or.inl ⟨by rfl, ?_⟩) hHeld ?_
        rotate_left
        · intro w hSw; obtain ⟨s1, s2, s3⟩ := hSw; go_simp; with_reducible rfl
        simp only [Act.put, List.setIfInBounds_toArray, List.set_cons_zero, List.set_cons_succ]
        refine take_at 8 57 (v := ?_) rfl rfl (by kernel_rfl) (by kernel_rfl) (by kernel_rfl) (Or.inl ⟨by rfl, ?_⟩) hHeld ?_
        rotate_left
        · intro w hSw; go_simp; with_reducible rfl
        simp only [Act.put, List.setIfInBounds_toArray, List.set_cons_zero, List.set_cons_succ]
        refine take_at 9 58 (v := ?_) rfl rfl (by kernel_rfl) (by kernel_rfl) (by kernel_rfl) (Or.inl ⟨by rfl, ?_⟩) hHeld ?_
        rotate_left
        · intro w hSw; go_simp; with_reducible rfl
        simp only [Act.put, List.setIfInBounds_toArray, List.set_cons_zero, List.set_cons_succ]
        refine take_at 10 59 (v := ?_) rfl rfl (by kernel_rfl) (by kernel_rfl) (by kernel_rfl) (Or.inl ⟨by rfl, ?_⟩) hHeld ?_
        rotate_left
        · intro w hSw; obtain ⟨s1, s2, s3⟩ := hSw; go_simp; with_reducible rfl
        simp only [Act.put, List.setIfInBounds_toArray, List.set_cons_zero, List.set_cons_succ]
        refine take_at 11 60 (v := ?_) rfl rfl (by kernel_rfl) (by kernel_rfl) (by kernel_rfl) (Or.inl ⟨by rfl, ?_⟩) hHeld ?_
        rotate_left
        · intro w hSw; go_simp; with_reducible rfl
        simp only [Act.put, List.setIfInBounds_toArray, List.set_cons_zero, List.set_cons_succ]
        refine take_at 12 61 (v := ?_) rfl rfl (by kernel_rfl) (by kernel_rfl) (by kernel_rfl) (Or.inl ⟨by rfl, ?_⟩) hHeld ?_
        rotate_left
        · intro w hSw; obtain ⟨s1, s2, s3⟩ := hSw; go_simp; with_reducible rfl
        simp only [Act.put, List.setIfInBounds_toArray, List.set_cons_zero, List.set_cons_succ]
        refine take_at 13 62 (v := ?_) rfl rfl (by kernel_rfl) (by kernel_rfl) (by kernel_rfl) (Or.inl ⟨by rfl, ?_⟩) hHeld ?_
        rotate_left
        · intro w hSw; go_simp; with_reducible rfl
        simp only [Act.put, List.setIfInBounds_toArray, List.set_cons_zero, List.set_cons_succ]
        refine take_at 14 63 (v := ?_) rfl rfl (by kernel_rfl) (by kernel_rfl) (by kernel_rfl) (Or.inl ⟨by rfl, ?_⟩) hHeld ?_
        rotate_left
        · intro w hSw; obtain ⟨s1, s2, s3⟩ := hSw; go_simp; with_reducible rfl
        simp only [Act.put, List.setIfInBounds_toArray, List.set_cons_zero, List.set_cons_succ]
        refine wpAnyH_ready (rs := [7]) (by kernel_rfl) (by simp) ?_
        refine AllReadyH.cons rfl (fun K2 hK => ?_) AllReadyH.nil
        go_simp
        refine ((unhide O3).st.setL (unhide FI).ok (ok_mono (unhide FI).am (by omega)) id wd v (unhide HV)).mono ?_
        rintro e w4 ⟨rfl, h1, h2⟩
        have O4 := hide ((unhide O3).call (St' := PP W P (S.setS A id wd v) (S.setM A id wd v) S K A) h1 h2)
        go_wp2_with fail
        clear hHeld
        refine hK.out _ _ (unhide SC _ _ _ _ _ _ (unhide O4)).2 (fun hNew => ?_)
        clear hK K2 h1 h2 O3
        refine wpAnyH_ready (rs := [15]) (by kernel_rfl) (by simp) ?_
        refine AllReadyH.cons rfl (fun K2 hK => ?_) AllReadyH.nil
        go_simp
        refine ((unhide O4).st.setR (unhide FI).mks (unhide FI).ok (ok_mono (unhide FI).am (by omega)) id wd v (unhide HV)).mono ?_
        rintro e w5 ⟨rfl, h1, h2⟩
        have O5 := hide ((unhide O4).call (St' := PP W P (S.setS A id wd v) (S.setM A id wd v) (S.setS A id wd v) K (S.setM A id wd v)) h1 h2)
        go_wp2_with fail
        refine hK.out _ _ (unhide SC _ _ _ _ _ _ (unhide O5)).2 (fun hHeld => ?_)
        clear hK K2 h1 h2 O4 hNew
        generalize S.setE A id wd v = E at *
        refine take_at 16 65 (v := ?_) rfl rfl (by kernel_rfl) (by kernel_rfl) (by kernel_rfl) (Or.inl ⟨by rfl, ?_⟩) hHeld ?_
        rotate_left
        · intro w hSw; go_simp; with_reducible rfl
        simp only [Act.put, List.setIfInBounds_toArray, List.set_cons_zero, List.set_cons_succ]
        refine take_at 17 8 (v := ?_) rfl rfl (by kernel_rfl) (by kernel_rfl) (by kernel_rfl) (Or.inl ⟨by rfl, ?_⟩) hHeld ?_
        rotate_left
        · intro w hSw; go_simp; with_reducible rfl
        simp only [Act.put, List.setIfInBounds_toArray, List.set_cons_zero, List.set_cons_succ]
        refine wpAnyH_done (by kernel_rfl) ?_ _
        refine NoPanic.normal ?_
        clear hHeld
        go_wp2_with fail
        go_ret
        exact ⟨rfl, _, _, _, unhide FI2, ((unhide O5).less (PP.stay W P _ _ _ _ _) (L' := []) (fun p hp => by cases hp)).done (PP.stay W P _ _ _ _ _) (.bool true) |>.2.1, (unhide O5).2.2⟩
      · skip
        have FI2 := hide ((unhide FI).set id wd v (unhide HV))
        go_upto_region 13 with fail
        have O3 := hide ((unhide O2).drew (PP.stay W P _ _ _ _ _))
        clear c0 c1 c2 c3
        refine wp_region_noPanic ?_
        refine wp_region_held_drew (S := fun w' => w'.cell? ⟨g6, 1, none⟩ = some (.int .i64 id) ∧ w'.cell? ⟨g6, 2, none⟩ = some (.int .i64 wd) ∧ w'.cell? ⟨g6, 3, none⟩ = some (.int .u64 v)) (by kernel_rfl) (unhide SC _ _ _ _ _ _ (unhide O3)).2 (fun hHeld => ?_)
        clear O2
        generalize w2.drew = w3 at *
        refine take_at 0 49 (v := ?_) rfl rfl (by kernel_rfl) (by kernel_rfl) (by kernel_rfl) (Or.inl ⟨by rfl, ?_⟩) hHeld ?_
        rotate_left
        · intro w hSw; go_simp; with_reducible rfl
        simp only [Act.put, List.setIfInBounds_toArray, List.set_cons_zero, List.set_cons_succ]
        refine take_at 1 50 (v := ?_) rfl rfl (by kernel_rfl) (by kernel_rfl) (by kernel_rfl) (Or.inl ⟨by rfl, ?_⟩) hHeld ?_
        rotate_left
        · intro w hSw; go_simp; with_reducible rfl
        simp only [Act.put, List.setIfInBounds_toArray, List.set_cons_zero, List.set_cons_succ]
        refine take_at 2 51 (v := ?_) rfl rfl (by kernel_rfl) (by kernel_rfl) (by kernel_rfl) (Or.inl ⟨by rfl, ?_⟩) hHeld ?_
        rotate_left
        · intro w hSw; obtain ⟨s1, s2, s3⟩ := hSw; go_simp; with_reducible rfl
        simp only [Act.put, List.setIfInBounds_toArray, List.set_cons_zero, List.set_cons_succ]
        refine take_at 3 52 (v := ?_) rfl rfl (by kernel_rfl) (by kernel_rfl) (by kernel_rfl) (Or.inl ⟨by rfl, ?_⟩) hHeld ?_
        rotate_left
        · intro w hSw; go_simp; with_reducible rfl
        simp only [Act.put, List.setIfInBounds_toArray, List.set_cons_zero, List.set_cons_succ]
        refine take_at 4 53 (v := ?_) rfl rfl (by kernel_rfl) (by kernel_rfl) (by kernel_rfl) (Or.inl ⟨by rfl, ?_⟩) hHeld ?_
        rotate_left
        · intro w hSw; obtain ⟨s1, s2, s3⟩ := hSw; go_simp; with_reducible rfl
        simp only [Act.put, List.setIfInBounds_toArray, List.set_cons_zero, List.set_cons_succ]
        refine take_at 5 54 (v := ?_) rfl rfl (by kernel_rfl) (by kernel_rfl) (by kernel_rfl) (Or.inl ⟨by rfl, ?_⟩) hHeld ?_
        rotate_left
        · intro w hSw; go_simp; with_reducible rfl
        simp only [Act.put, List.setIfInBounds_toArray, List.set_cons_zero, List.set_cons_succ]
        refine take_at 6 55 (v := ?_) rfl rfl (by kernel_rfl) (by kernel_rfl) (by kernel_rfl) (Or.inl ⟨by rfl, ?_⟩) hHeld ?_
        rotate_left
        · intro w hSw; obtain ⟨s1, s2, s3⟩ := hSw; go_simp; with_reducible rfl
        simp only [Act.put, List.setIfInBounds_toArray, List.set_cons_zero, List.set_cons_succ]
        refine take_at 8 57 (v := ?_) rfl rfl (by kernel_rfl) (by kernel_rfl) (by kernel_rfl) (Or.inl ⟨by rfl, ?_⟩) hHeld ?_
        rotate_left
        · intro w hSw; go_simp; with_reducible rfl
        simp only [Act.put, List.setIfInBounds_toArray, List.set_cons_zero, List.set_cons_succ]
        refine take_at 9 58 (v := ?_) rfl rfl (by kernel_rfl) (by kernel_rfl) (by kernel_rfl) (Or.inl ⟨by rfl, ?_⟩) hHeld ?_
        rotate_left
        · intro w hSw; go_simp; with_reducible rfl
        simp only [Act.put, List.setIfInBounds_toArray, List.set_cons_zero, List.set_cons_succ]
        refine take_at 10 59 (v := ?_) rfl rfl (by kernel_rfl) (by kernel_rfl) (by kernel_rfl) (Or.inl ⟨by rfl, ?_⟩) hHeld ?_
        rotate_left
        · intro w hSw; obtain ⟨s1, s2, s3⟩ := hSw; go_simp; with_reducible rfl
        simp only [Act.put, List.setIfInBounds_toArray, List.set_cons_zero, List.set_cons_succ]
        refine take_at 11 60 (v := ?_) rfl rfl (by kernel_rfl) (by kernel_rfl) (by kernel_rfl) (Or.inl ⟨by rfl, ?_⟩) hHeld ?_
        rotate_left
        · intro w hSw; go_simp; with_reducible rfl
        simp only [Act.put, List.setIfInBounds_toArray, List.set_cons_zero, List.set_cons_succ]
        refine take_at 12 61 (v := ?_) rfl rfl (by kernel_rfl) (by kernel_rfl) (by kernel_rfl) (Or.inl ⟨by rfl, ?_⟩) hHeld ?_
        rotate_left
        · intro w hSw; obtain ⟨s1, s2, s3⟩ := hSw; go_simp; with_reducible rfl
        simp only [Act.put, List.setIfInBounds_toArray, List.set_cons_zero, List.set_cons_succ]
        refine take_at 13 62 (v := ?_) rfl rfl (by kernel_rfl) (by kernel_rfl) (by kernel_rfl) (Or.inl ⟨by rfl, ?_⟩) hHeld ?_
        rotate_left
        · intro w hSw; go_simp; with_reducible rfl
        simp only [Act.put, List.setIfInBounds_toArray, List.set_cons_zero, List.set_cons_succ]
        refine take_at 14 63 (v := ?_) rfl rfl (by kernel_rfl) (by kernel_rfl) (by kernel_rfl) (Or.inl ⟨by rfl, ?_⟩) hHeld ?_
        rotate_left
        · intro w hSw; obtain ⟨s1, s2, s3⟩ := hSw; go_simp; with_reducible rfl
        simp only [Act.put, List.setIfInBounds_toArray, List.set_cons_zero, List.set_cons_succ]
        refine wpAnyH_ready (rs := [7]) (by kernel_rfl) (by simp) ?_
        refine AllReadyH.cons rfl (fun K2 hK => ?_) AllReadyH.nil
        go_simp
        refine ((unhide O3).st.setL (unhide FI).ok (ok_mono (unhide FI).am (by omega)) id wd v (unhide HV)).mono ?_
        rintro e w4 ⟨rfl, h1, h2⟩
        have O4 := hide ((unhide O3).call (St' := PP W P (S.setS A id wd v) (S.setM A id wd v) S K A) h1 h2)
        go_wp2_with fail
        clear hHeld
        refine hK.out _ _ (unhide SC _ _ _ _ _ _ (unhide O4)).2 (fun hNew => ?_)
        clear hK K2 h1 h2 O3
        refine wpAnyH_ready (rs := [15]) (by kernel_rfl) (by simp) ?_
        refine AllReadyH.cons rfl (fun K2 hK => ?_) AllReadyH.nil
        go_simp
        refine ((unhide O4).st.setR (unhide FI).mks (unhide FI).ok (ok_mono (unhide FI).am (by omega)) id wd v (unhide HV)).mono ?_
        rintro e w5 ⟨rfl, h1, h2⟩
        have O5 := hide ((unhide O4).call (St' := PP W P (S.setS A id wd v) (S.setM A id wd v) (S.setS A id wd v) K (S.setM A id wd v)) h1 h2)
        go_wp2_with fail
        refine hK.out _ _ (unhide SC _ _ _ _ _ _ (unhide O5)).2 (fun hHeld => ?_)
        clear hK K2 h1 h2 O4 hNew
        generalize S.setE A id wd v = E at *
        refine take_at 16 65 (v := ?_) rfl rfl (by kernel_rfl) (by kernel_rfl) (by kernel_rfl) (Or.inl ⟨by rfl, ?_⟩) hHeld ?_
        rotate_left
        · intro w hSw; go_simp; with_reducible rfl
        simp only [Act.put, List.setIfInBounds_toArray, List.set_cons_zero, List.set_cons_succ]
        refine take_at 17 8 (v := ?_) rfl rfl (by kernel_rfl) (by kernel_rfl) (by kernel_rfl) (Or.inl ⟨by rfl, ?_⟩) hHeld ?_
        rotate_left
        · intro w hSw; go_simp; with_reducible rfl
        simp only [Act.put, List.setIfInBounds_toArray, List.set_cons_zero, List.set_cons_succ]
        refine wpAnyH_done (by kernel_rfl) ?_ _
        refine NoPanic.normal ?_
        clear hHeld
        go_wp2_with fail
        go_ret
        exact ⟨rfl, _, _, _, unhide FI2, ((unhide O5).less (PP.stay W P _ _ _ _ _) (L' := []) (fun p hp => by cases hp)).done (PP.stay W P _ _ _ _ _) (.bool true) |>.2.1, (unhide O5).2.2⟩
      · skip
        have FI2 := hide ((unhide FI).make wd)
        have CL := hide ((unhide O2).st.makeL (unhide FI).ok (ok_mono (unhide FI).am (by omega)) wd)
        have CR := hide (fun (w' : World) G' (h' : PP W P (S.makeS A wd) (S.makeM A wd) S K A w' G') => h'.makeR (unhide FI).ok (ok_mono (unhide FI).am (by omega)) wd)
        generalize S.makeE A wd = E at *
        generalize S.makeI A wd = I at *
        go_wp2_with fail
        refine (unhide CL).mono ?_
        rintro e w4 ⟨rfl, h1, h2⟩
        have O4 := hide ((unhide O2).call (St' := PP W P (S.makeS A wd) (S.makeM A wd) S K A) h1 h2)
        have c2 := (unhide SC _ _ _ _ _ _ (unhide O4)).2.2.1
        clear h1 h2 O2 CL c0 c1 c3
        go_wp2_with fail
        refine (unhide CR _ _ (unhide O4).st).mono ?_
        rintro e w5 ⟨rfl, h1, h2⟩
        have O5 := hide ((unhide O4).call (St' := PP W P (S.makeS A wd) (S.makeM A wd) (S.makeS A wd) K (S.makeM A wd)) h1 h2)
        clear h1 h2 O4 CR c2
        go_wp2_with fail
        go_ret
        exact ⟨rfl, _, _, _, unhide FI2, ((unhide O5).less (PP.stay W P _ _ _ _ _) (L' := []) (fun p hp => by cases hp)).done (PP.stay W P _ _ _ _ _) (.bool true) |>.2.1, (unhide O5).2.2⟩
      · skip
        have FI2 := hide (((unhide FI).end_ id).mono (show B ≤ B + 8 by omega))
        go_upto_region 19 with fail
        have O3 := hide ((unhide O2).drew (PP.stay W P _ _ _ _ _))
        clear c0 c1 c2 c3
        refine wp_region_noPanic ?_
        refine wp_region_held_drew (S := fun w' => w'.cell? ⟨g6, 1, none⟩ = some (.int .i64 id)) (by kernel_rfl) (unhide SC _ _ _ _ _ _ (unhide O3)).2.1 (fun hHeld => ?_)
        clear O2
        generalize w2.drew = w3 at *
        refine take_at 0 92 (v := ?_) rfl rfl (by kernel_rfl) (by kernel_rfl) (by kernel_rfl) (Or.inl ⟨by rfl, ?_⟩) hHeld ?_
        rotate_left
        · intro w hSw; go_simp; with_reducible rfl
        simp only [Act.put, List.setIfInBounds_toArray, List.set_cons_zero, List.set_cons_succ]
        refine take_at 1 93 (v := ?_) rfl rfl (by kernel_rfl) (by kernel_rfl) (by kernel_rfl) (Or.inl ⟨by rfl, ?_⟩) hHeld ?_
        rotate_left
        · intro w hSw; go_simp; with_reducible rfl
        simp only [Act.put, List.setIfInBounds_toArray, List.set_cons_zero, List.set_cons_succ]
        refine take_at 2 94 (v := ?_) rfl rfl (by kernel_rfl) (by kernel_rfl) (by kernel_rfl) (Or.inl ⟨by rfl, ?_⟩) hHeld ?_
        rotate_left
        · intro w hSw; have s1 := hSw; go_simp; with_reducible rfl
        simp only [Act.put, List.setIfInBounds_toArray, List.set_cons_zero, List.set_cons_succ]
        refine take_at 4 96 (v := ?_) rfl rfl (by kernel_rfl) (by kernel_rfl) (by kernel_rfl) (Or.inl ⟨by rfl, ?_⟩) hHeld ?_
        rotate_left
        · intro w hSw; go_simp; with_reducible rfl
        simp only [Act.put, List.setIfInBounds_toArray, List.set_cons_zero, List.set_cons_succ]
        refine take_at 5 97 (v := ?_) rfl rfl (by kernel_rfl) (by kernel_rfl) (by kernel_rfl) (Or.inl ⟨by rfl, ?_⟩) hHeld ?_
        rotate_left
        · intro w hSw; go_simp; with_reducible rfl
        simp only [Act.put, List.setIfInBounds_toArray, List.set_cons_zero, List.set_cons_succ]
        refine take_at 6 98 (v := ?_) rfl rfl (by kernel_rfl) (by kernel_rfl) (by kernel_rfl) (Or.inl ⟨by rfl, ?_⟩) hHeld ?_
        rotate_left
        · intro w hSw; have s1 := hSw; go_simp; with_reducible rfl
        simp only [Act.put, List.setIfInBounds_toArray, List.set_cons_zero, List.set_cons_succ]
        refine wpAnyH_ready (rs := [3]) (by kernel_rfl) (by simp) ?_
        refine AllReadyH.cons rfl (fun K2 hK => ?_) AllReadyH.nil
        go_simp
        refine ((unhide O3).st.endL (unhide FI).ok id).mono ?_
        rintro e w4 ⟨rfl, h1, h2⟩
        have O4 := hide ((unhide O3).call (St' := PP W P (S.endS id) A S K A) h1 h2)
        go_wp2_with fail
        clear hHeld
        refine hK.out _ _ (unhide SC _ _ _ _ _ _ (unhide O4)).2.1 (fun hNew => ?_)
        clear hK K2 h1 h2 O3
        refine wpAnyH_ready (rs := [7]) (by kernel_rfl) (by simp) ?_
        refine AllReadyH.cons rfl (fun K2 hK => ?_) AllReadyH.nil
        go_simp
        refine ((unhide O4).st.endR (unhide FI).mks (unhide FI).ok (unhide FI).li id).mono ?_
        rintro e w5 ⟨rfl, h1, h2⟩
        have O5 := hide ((unhide O4).call (St' := PP W P (S.endS id) A (S.endS id) K A) h1 h2)
        go_wp2_with fail
        refine hK.out _ _ (unhide SC _ _ _ _ _ _ (unhide O5)).2.1 (fun hHeld => ?_)
        clear hK K2 h1 h2 O4 hNew
        generalize S.findE id = E at *
        refine take_at 8 100 (v := ?_) rfl rfl (by kernel_rfl) (by kernel_rfl) (by kernel_rfl) (Or.inl ⟨by rfl, ?_⟩) hHeld ?_
        rotate_left
        · intro w hSw; go_simp; with_reducible rfl
        simp only [Act.put, List.setIfInBounds_toArray, List.set_cons_zero, List.set_cons_succ]
        refine take_at 9 8 (v := ?_) rfl rfl (by kernel_rfl) (by kernel_rfl) (by kernel_rfl) (Or.inl ⟨by rfl, ?_⟩) hHeld ?_
        rotate_left
        · intro w hSw; go_simp; with_reducible rfl
        simp only [Act.put, List.setIfInBounds_toArray, List.set_cons_zero, List.set_cons_succ]
        refine wpAnyH_done (by kernel_rfl) ?_ _
        refine NoPanic.normal ?_
        clear hHeld
        go_wp2_with fail
        go_ret
        exact ⟨rfl, _, _, _, unhide FI2, ((unhide O5).less (PP.stay W P _ _ _ _ _) (L' := []) (fun p hp => by cases hp)).done (PP.stay W P _ _ _ _ _) (.bool true) |>.2.1, (unhide O5).2.2⟩
      · skip
        have FI2 := hide ((unhide FI).mark.mono (show B ≤ B + 8 by omega))
        have CL := hide ((unhide O2).st.markL)
        have CR := hide (fun (w' : World) G' (h' : PP W P S.markS A S K A w' G') => h'.markR)
        generalize S.markE = E at *
        go_wp2_with fail
        refine (unhide CL).mono ?_
        rintro e w4 ⟨rfl, h1, h2⟩
        have O4 := hide ((unhide O2).call (St' := PP W P S.markS A S K A) h1 h2)
        clear h1 h2 O2 CL c0 c1 c2 c3
        go_wp2_with fail
        refine (unhide CR _ _ (unhide O4).st).mono ?_
        rintro e w5 ⟨rfl, h1, h2⟩
        have O5 := hide ((unhide O4).call (St' := PP W P S.markS A S.markS (S.kept K) A) h1 h2)
        clear h1 h2 O4 CR
        go_wp2_with fail
        go_ret
        exact ⟨rfl, _, _, _, unhide FI2, ((unhide O5).less (PP.stay W P _ _ _ _ _) (L' := []) (fun p hp => by cases hp)).done (PP.stay W P _ _ _ _ _) (.bool true) |>.2.1, (unhide O5).2.2⟩
      · skip
        have FI2 := hide ((unhide FI).mono (show B ≤ B + 8 by omega))
        have O5 := O2
        clear O2 c1 c2 c3
        go_wp2_with fail
        go_ret
        exact ⟨rfl, _, _, _, unhide FI2, ((unhide O5).less (PP.stay W P _ _ _ _ _) (L' := []) (fun p hp => by cases hp)).done (PP.stay W P _ _ _ _ _) (.bool true) |>.2.1, (unhide O5).2.2⟩
      · skip
        have FI2 := hide (((unhide FI).commit dd).mono (show B ≤ B + 8 by omega))
        have s8 := s8_d8' dd
        have RG : Hid (∀ S1 A1 S2 K2 A2 w', Held W (PP W P S1 A1 S2 K2 A2) w w' G [(g6, .cells #[.int .i64 kd, .int .i64 id, .int .i64 wd, .int .u64 v] 108), (g9, .cells (dirV dd) 44)] → w'.rangeAt g9 0 (dirV dd).toList) := fun S1 A1 S2 K2 A2 w' hO j v hv => by
          rw [cell_of_block (hO.at g9 (.cells (dirV dd) 44) (by simp)), Nat.zero_add, ← Array.getElem?_toList]; exact hv
        have CL := hide (fun (w' : World) G' (h' : PP W P S A S K A w' G') => h'.commitL (unhide FI).ok dd)
        have CR := hide (fun (w' : World) G' (h' : PP W P (S.commitS dd) A S K A w' G') => h'.commitR (unhide FI).mks (unhide FI).ok dd)
        generalize S.doneE = E at *
        obtain ⟨ST, hST⟩ : ∃ ST, ST = S.commitS dd := ⟨_, rfl⟩
        rw [← hST] at FI2 CL CR
        obtain ⟨DV, hDV⟩ : ∃ DV, DV = dirV dd := ⟨_, rfl⟩
        rw [← hDV] at O2 RG CL CR s8 SC
        clear hDV hST
        go_upto_region 23 with fail
        have O3 := hide ((unhide O2).drew (PP.stay W P _ _ _ _ _))
        clear c0 c1 c2 c3 SC
        refine wp_region_noPanic ?_
        refine wp_region_held_drew (S := fun w' => w'.rangeAt g9 0 DV.toList) (by kernel_rfl) (unhide RG _ _ _ _ _ _ (unhide O3)) (fun hHeld => ?_)
        clear O2
        generalize w2.drew = w3 at *
        refine take_at 0 110 (v := ?_) rfl rfl (by kernel_rfl) (by kernel_rfl) (by kernel_rfl) (Or.inl ⟨by rfl, ?_⟩) hHeld ?_
        rotate_left
        · intro w hSw; go_simp; with_reducible rfl
        simp only [Act.put, List.setIfInBounds_toArray, List.set_cons_zero, List.set_cons_succ]
        refine take_at 1 111 rfl rfl (by kernel_rfl) (by kernel_rfl) (by kernel_rfl) (yieldsIf_load_mid (by rfl) 44 _ rfl g9 0 rfl DV.toList _ (fun w' h => h) Tryz.underlying44 rfl (by rw [Array.length_toList]; exact s8)) hHeld ?_
        simp only [Act.put, List.setIfInBounds_toArray, List.set_cons_zero, List.set_cons_succ]
        refine take_at 3 113 (v := ?_) rfl rfl (by kernel_rfl) (by kernel_rfl) (by kernel_rfl) (Or.inl ⟨by rfl, ?_⟩) hHeld ?_
        rotate_left
        · intro w hSw; go_simp; with_reducible rfl
        simp only [Act.put, List.setIfInBounds_toArray, List.set_cons_zero, List.set_cons_succ]
        refine take_at 4 114 rfl rfl (by kernel_rfl) (by kernel_rfl) (by kernel_rfl) (yieldsIf_load_mid (by rfl) 44 _ rfl g9 0 rfl DV.toList _ (fun w' h => h) Tryz.underlying44 rfl (by rw [Array.length_toList]; exact s8)) hHeld ?_
        simp only [Act.put, List.setIfInBounds_toArray, List.set_cons_zero, List.set_cons_succ]
        refine wpAnyH_ready (rs := [2]) (by kernel_rfl) (by simp) ?_
        refine AllReadyH.cons rfl (fun K2 hK => ?_) AllReadyH.nil
        go_simp
        refine (unhide CL _ _ (unhide O3).st).mono ?_
        rintro e w4 ⟨rfl, h1, h2⟩
        have O4 := hide ((unhide O3).call (St' := PP W P ST A S K A) h1 h2)
        go_wp2_with fail
        clear hHeld
        refine hK.out _ _ (unhide RG _ _ _ _ _ _ (unhide O4)) (fun hNew => ?_)
        clear hK K2 h1 h2 O3
        refine wpAnyH_ready (rs := [5]) (by kernel_rfl) (by simp) ?_
        refine AllReadyH.cons rfl (fun K2 hK => ?_) AllReadyH.nil
        go_simp
        refine (unhide CR _ _ (unhide O4).st).mono ?_
        rintro e w5 ⟨rfl, h1, h2⟩
        have O5 := hide ((unhide O4).call (St' := PP W P ST A ST K A) h1 h2)
        go_wp2_with fail
        refine hK.out _ _ (unhide RG _ _ _ _ _ _ (unhide O5)) (fun hHeld => ?_)
        clear hK K2 h1 h2 O4 hNew
        refine take_at 6 116 (v := ?_) rfl rfl (by kernel_rfl) (by kernel_rfl) (by kernel_rfl) (Or.inl ⟨by rfl, ?_⟩) hHeld ?_
        rotate_left
        · intro w hSw; go_simp; with_reducible rfl
        simp only [Act.put, List.setIfInBounds_toArray, List.set_cons_zero, List.set_cons_succ]
        refine take_at 7 8 (v := ?_) rfl rfl (by kernel_rfl) (by kernel_rfl) (by kernel_rfl) (Or.inl ⟨by rfl, ?_⟩) hHeld ?_
        rotate_left
        · intro w hSw; go_simp; with_reducible rfl
        simp only [Act.put, List.setIfInBounds_toArray, List.set_cons_zero, List.set_cons_succ]
        refine wpAnyH_done (by kernel_rfl) ?_ _
        refine NoPanic.normal ?_
        clear hHeld
        go_wp2_with fail
        go_ret
        exact ⟨rfl, _, _, _, unhide FI2, ((unhide O5).less (PP.stay W P _ _ _ _ _) (L' := []) (fun p hp => by cases hp)).done (PP.stay W P _ _ _ _ _) (.bool true) |>.2.1, (unhide O5).2.2⟩
      · skip
        have FI2 := hide ((unhide FI).abort.mono (show B ≤ B + 8 by omega))
        have CL := hide ((unhide O2).st.abortL (unhide FI).ok)
        have CR := hide (fun (w' : World) G' (h' : PP W P S.abortS A S K A w' G') => h'.abortR (unhide FI).ok)
        generalize S.doneE = E at *
        go_wp2_with fail
        refine (unhide CL).mono ?_
        rintro e w4 ⟨rfl, h1, h2⟩
        have O4 := hide ((unhide O2).call (St' := PP W P S.abortS A S K A) h1 h2)
        clear h1 h2 O2 CL c0 c1 c2 c3
        go_wp2_with fail
        refine (unhide CR _ _ (unhide O4).st).mono ?_
        rintro e w5 ⟨rfl, h1, h2⟩
        have O5 := hide ((unhide O4).call (St' := PP W P S.abortS A S.abortS K A) h1 h2)
        clear h1 h2 O4 CR
        go_wp2_with fail
        go_ret
        exact ⟨rfl, _, _, _, unhide FI2, ((unhide O5).less (PP.stay W P _ _ _ _ _) (L' := []) (fun p hp => by cases hp)).done (PP.stay W P _ _ _ _ _) (.bool true) |>.2.1, (unhide O5).2.2⟩
      · skip
        have FI2 := hide ((unhide FI).mono (show B ≤ B + 8 by omega))
        obtain ⟨v0, v1⟩ := unhide HV
        have hmo0 : 0 ≤ v % 100 := Int.emod_nonneg _ (by decide)
        have hmo1 : v % 100 < 100 := Int.emod_lt_of_pos _ (by decide)
        go_upto_region 28 with fail
        obtain ⟨mo, hmo⟩ : ∃ mo, mo = v % 100 := ⟨_, rfl⟩
        rw [← hmo] at hmo0 hmo1 ⊢
        clear hmo
        have O3 := hide ((unhide O2).drew (PP.stay W P _ _ _ _ _))
        clear c0 c1 c2 c3 v0 v1 SC O2
        have SCL : Hid (∀ L w', Held W (PP W P S A S K A) w w' G L → (g6, Obj.cells #[.int .i64 kd, .int .i64 id, .int .i64 wd, .int .u64 v] 108) ∈ L → w'.cell? ⟨g6, 1, none⟩ = some (.int .i64 id) ∧ w'.cell? ⟨g6, 2, none⟩ = some (.int .i64 wd)) := fun L w' hO hm => by
          have kg := hO.at g6 _ hm
          refine ⟨?_, ?_⟩ <;> rw [cell_of_block kg] <;> rfl
        have AT : Hid (∀ ga L w', Held W (PP W P S A S K A) w w' G L → (ga, Obj.cells #[.int .i64 id, .int .i64 wd, .int .i64 id] 3) ∈ L → LiesI w' (some ⟨ga, 0, none⟩) [id, wd, id]) := fun ga L w' hO hm => Or.inr ⟨ga, 0, rfl, fun i hi => by
          have kg := hO.at ga _ hm
          rw [cell_of_block kg]
          match i, hi with
          | 0, _ => rfl
          | 1, _ => rfl
          | 2, _ => rfl⟩
        have CL : Hid (∀ w' G' ga, PP W P S A S K A w' G' → LiesI w' (some ⟨ga, 0, none⟩) [id, wd, id] → Calls Tryz.prog 109 #[.pointer (some ⟨P.b, 0, none⟩), .slice (some ⟨ga, 0, none⟩) 3 3, .int .i64 mo] w' (Done (PP W P S A S K A) w' G' (.bool (S.roomB [id, wd, id] mo)))) := fun w' G' ga h' hl => h'.roomL (unhide FI).ok (some ⟨ga, 0, none⟩) [id, wd, id] 3 hl (by simp) mo (by omega)
        have CR : Hid (∀ w' G' ga, PP W P S A S K A w' G' → LiesI w' (some ⟨ga, 0, none⟩) [id, wd, id] → Calls Tryz.prog 110 #[.pointer (some ⟨P.y, 0, none⟩), .slice (some ⟨ga, 0, none⟩) 3 3, .int .i64 mo] w' (Done (PP W P S A S K A) w' G' (.bool (S.roomB [id, wd, id] mo)))) := fun w' G' ga h' hl => h'.roomR (unhide FI).mks (unhide FI).ok (some ⟨ga, 0, none⟩) [id, wd, id] 3 hl (by simp) (by simp) mo (by omega)
        have CL0 : Hid (∀ w' G', PP W P S A S K A w' G' → Calls Tryz.prog 109 #[.pointer (some ⟨P.b, 0, none⟩), .slice none 0 0, .int .i64 (-1)] w' (Done (PP W P S A S K A) w' G' (.bool (S.roomB [] (-1))))) := fun w' G' h' => h'.roomL (unhide FI).ok none [] 0 (Or.inl rfl) (by simp) (-1) (by omega)
        have CR0 : Hid (∀ w' G', PP W P S A S K A w' G' → Calls Tryz.prog 110 #[.pointer (some ⟨P.y, 0, none⟩), .slice none 0 0, .int .i64 (-1)] w' (Done (PP W P S A S K A) w' G' (.bool (S.roomB [] (-1))))) := fun w' G' h' => h'.roomR (unhide FI).mks (unhide FI).ok none [] 0 (Or.inl rfl) (by simp) (by simp) (-1) (by omega)
        generalize S.roomB [id, wd, id] mo = R1 at *
        generalize S.roomB [] (-1) = R2 at *
        refine wp_region_noPanic ?_
        refine wp_region_held_drew (S := fun w' => w'.cell? ⟨g6, 1, none⟩ = some (.int .i64 id) ∧ w'.cell? ⟨g6, 2, none⟩ = some (.int .i64 wd)) (by kernel_rfl) (unhide SCL _ _ (unhide O3) (by simp)) (fun hHeld => ?_)
        generalize w2.drew = w3 at *
        refine take_at 0 130 (v := ?_) rfl rfl (by kernel_rfl) (by kernel_rfl) (by kernel_rfl) (Or.inl ⟨by rfl, ?_⟩) hHeld ?_
        rotate_left
        · intro w hSw; go_simp; with_reducible rfl
        simp only [Act.put, List.setIfInBounds_toArray, List.set_cons_zero, List.set_cons_succ]
        refine take_at 1 131 (v := ?_) rfl rfl (by kernel_rfl) (by kernel_rfl) (by kernel_rfl) (Or.inl ⟨by rfl, ?_⟩) hHeld ?_
        rotate_left
        · intro w hSw; go_simp; with_reducible rfl
        simp only [Act.put, List.setIfInBounds_toArray, List.set_cons_zero, List.set_cons_succ]
        refine take_at 2 132 (v := ?_) rfl rfl (by kernel_rfl) (by kernel_rfl) (by kernel_rfl) (Or.inl ⟨by rfl, ?_⟩) hHeld ?_
        rotate_left
        · intro w hSw; obtain ⟨s1, s2⟩ := hSw; go_simp; with_reducible rfl
        simp only [Act.put, List.setIfInBounds_toArray, List.set_cons_zero, List.set_cons_succ]
        refine take_at 3 133 (v := ?_) rfl rfl (by kernel_rfl) (by kernel_rfl) (by kernel_rfl) (Or.inl ⟨by rfl, ?_⟩) hHeld ?_
        rotate_left
        · intro w hSw; go_simp; with_reducible rfl
        simp only [Act.put, List.setIfInBounds_toArray, List.set_cons_zero, List.set_cons_succ]
        refine take_at 4 134 (v := ?_) rfl rfl (by kernel_rfl) (by kernel_rfl) (by kernel_rfl) (Or.inl ⟨by rfl, ?_⟩) hHeld ?_
        rotate_left
        · intro w hSw; obtain ⟨s1, s2⟩ := hSw; go_simp; with_reducible rfl
        simp only [Act.put, List.setIfInBounds_toArray, List.set_cons_zero, List.set_cons_succ]
        refine take_at 5 135 (v := ?_) rfl rfl (by kernel_rfl) (by kernel_rfl) (by kernel_rfl) (Or.inl ⟨by rfl, ?_⟩) hHeld ?_
        rotate_left
        · intro w hSw; go_simp; with_reducible rfl
        simp only [Act.put, List.setIfInBounds_toArray, List.set_cons_zero, List.set_cons_succ]
        refine take_at 6 136 (v := ?_) rfl rfl (by kernel_rfl) (by kernel_rfl) (by kernel_rfl) (Or.inl ⟨by rfl, ?_⟩) hHeld ?_
        rotate_left
        · intro w hSw; obtain ⟨s1, s2⟩ := hSw; go_simp; with_reducible rfl
        simp only [Act.put, List.setIfInBounds_toArray, List.set_cons_zero, List.set_cons_succ]
        refine take_at 8 138 (v := ?_) rfl rfl (by kernel_rfl) (by kernel_rfl) (by kernel_rfl) (Or.inl ⟨by rfl, ?_⟩) hHeld ?_
        rotate_left
        · intro w hSw; go_simp; with_reducible rfl
        simp only [Act.put, List.setIfInBounds_toArray, List.set_cons_zero, List.set_cons_succ]
        refine take_at 10 140 (v := ?_) rfl rfl (by kernel_rfl) (by kernel_rfl) (by kernel_rfl) (Or.inl ⟨by rfl, ?_⟩) hHeld ?_
        rotate_left
        · intro w hSw; go_simp; with_reducible rfl
        simp only [Act.put, List.setIfInBounds_toArray, List.set_cons_zero, List.set_cons_succ]
        refine take_at 11 141 (v := ?_) rfl rfl (by kernel_rfl) (by kernel_rfl) (by kernel_rfl) (Or.inl ⟨by rfl, ?_⟩) hHeld ?_
        rotate_left
        · intro w hSw; go_simp; with_reducible rfl
        simp only [Act.put, List.setIfInBounds_toArray, List.set_cons_zero, List.set_cons_succ]
        refine take_at 12 142 (v := ?_) rfl rfl (by kernel_rfl) (by kernel_rfl) (by kernel_rfl) (Or.inl ⟨by rfl, ?_⟩) hHeld ?_
        rotate_left
        · intro w hSw; obtain ⟨s1, s2⟩ := hSw; go_simp; with_reducible rfl
        simp only [Act.put, List.setIfInBounds_toArray, List.set_cons_zero, List.set_cons_succ]
        refine take_at 13 143 (v := ?_) rfl rfl (by kernel_rfl) (by kernel_rfl) (by kernel_rfl) (Or.inl ⟨by rfl, ?_⟩) hHeld ?_
        rotate_left
        · intro w hSw; go_simp; with_reducible rfl
        simp only [Act.put, List.setIfInBounds_toArray, List.set_cons_zero, List.set_cons_succ]
        refine take_at 14 144 (v := ?_) rfl rfl (by kernel_rfl) (by kernel_rfl) (by kernel_rfl) (Or.inl ⟨by rfl, ?_⟩) hHeld ?_
        rotate_left
        · intro w hSw; obtain ⟨s1, s2⟩ := hSw; go_simp; with_reducible rfl
        simp only [Act.put, List.setIfInBounds_toArray, List.set_cons_zero, List.set_cons_succ]
        refine take_at 15 145 (v := ?_) rfl rfl (by kernel_rfl) (by kernel_rfl) (by kernel_rfl) (Or.inl ⟨by rfl, ?_⟩) hHeld ?_
        rotate_left
        · intro w hSw; go_simp; with_reducible rfl
        simp only [Act.put, List.setIfInBounds_toArray, List.set_cons_zero, List.set_cons_succ]
        refine take_at 16 146 (v := ?_) rfl rfl (by kernel_rfl) (by kernel_rfl) (by kernel_rfl) (Or.inl ⟨by rfl, ?_⟩) hHeld ?_
        rotate_left
        · intro w hSw; obtain ⟨s1, s2⟩ := hSw; go_simp; with_reducible rfl
        simp only [Act.put, List.setIfInBounds_toArray, List.set_cons_zero, List.set_cons_succ]
        refine take_at 18 148 (v := ?_) rfl rfl (by kernel_rfl) (by kernel_rfl) (by kernel_rfl) (Or.inl ⟨by rfl, ?_⟩) hHeld ?_
        rotate_left
        · intro w hSw; go_simp; with_reducible rfl
        simp only [Act.put, List.setIfInBounds_toArray, List.set_cons_zero, List.set_cons_succ]
        refine wpAnyH_ready (rs := [7, 17]) (by kernel_rfl) (by simp) ?_
        refine AllReadyH.cons rfl (fun K2 hK => ?_) (AllReadyH.cons rfl (fun K2 hK => ?_) AllReadyH.nil)
        · have OX0 := O3
          clear O3
          have OX := hide ((unhide OX0).alloc (PP.stay W P _ _ _ _ _) (.cells #[.int .i64 id, .int .i64 wd, .int .i64 id] 3))
          go_simp
          clear hHeld
          refine hK.out _ _ (unhide SCL _ _ (unhide OX) (by simp)) (fun hHeld => ?_)
          clear hK K2 OX0
          obtain ⟨ga, hga⟩ : ∃ ga, ga = w3.heap.size := ⟨_, rfl⟩
          rw [← hga] at OX ⊢
          clear hga
          generalize w3.alloc _ = w4 at *
          refine wpAnyH_ready (rs := [9, 17]) (by kernel_rfl) (by simp) ?_
          refine AllReadyH.cons rfl (fun K2 hK => ?_) (AllReadyH.cons rfl (fun K2 hK => ?_) AllReadyH.nil)
          · have OX0 := OX
            clear OX
            go_simp
            refine (unhide CL _ _ ga (unhide OX0).st (unhide AT ga _ _ (unhide OX0) (by simp))).mono ?_
            rintro e wn ⟨rfl, h1, h2⟩
            have OX := hide ((unhide OX0).call (St' := PP W P S A S K A) h1 h2)
            go_wp2_with fail
            clear hHeld
            refine hK.out _ _ (unhide SCL _ _ (unhide OX) (by simp)) (fun hHeld => ?_)
            clear hK K2 h1 h2 OX0
            refine wpAnyH_ready (rs := [17]) (by kernel_rfl) (by simp) ?_
            refine AllReadyH.cons rfl (fun K2 hK => ?_) AllReadyH.nil
            have OX0 := OX
            clear OX
            have OX := hide ((unhide OX0).alloc (PP.stay W P _ _ _ _ _) (.cells #[.int .i64 id, .int .i64 wd, .int .i64 id] 3))
            go_simp
            clear hHeld
            refine hK.out _ _ (unhide SCL _ _ (unhide OX) (by simp)) (fun hHeld => ?_)
            clear hK K2 OX0
            obtain ⟨gb, hgb⟩ : ∃ gb, gb = wn.heap.size := ⟨_, rfl⟩
            rw [← hgb] at OX ⊢
            clear hgb
            generalize wn.alloc _ = w7 at *
            have OX0 := OX
            clear OX
            refine wpAnyH_ready (rs := [19]) (by kernel_rfl) (by simp) ?_
            refine AllReadyH.cons rfl (fun K2 hK => ?_) AllReadyH.nil
            go_simp
            refine (unhide CR _ _ gb (unhide OX0).st (unhide AT gb _ _ (unhide OX0) (by simp))).mono ?_
            rintro e w8 ⟨rfl, h1, h2⟩
            have O8 := hide ((unhide OX0).call (St' := PP W P S A S K A) h1 h2)
            go_wp2_with fail
            clear hHeld
            refine hK.out _ _ (unhide SCL _ _ (unhide O8) (by simp)) (fun hHeld => ?_)
            clear hK K2 h1 h2 OX0
            refine take_at 20 150 (v := ?_) rfl rfl (by kernel_rfl) (by kernel_rfl) (by kernel_rfl) (Or.inl ⟨by rfl, ?_⟩) hHeld ?_
            rotate_left
            · intro w hSw; go_simp; with_reducible rfl
            simp only [Act.put, List.setIfInBounds_toArray, List.set_cons_zero, List.set_cons_succ]
            refine take_at 21 151 (v := ?_) rfl rfl (by kernel_rfl) (by kernel_rfl) (by kernel_rfl) (Or.inl ⟨by rfl, ?_⟩) hHeld ?_
            rotate_left
            · intro w hSw; go_simp; with_reducible rfl
            simp only [Act.put, List.setIfInBounds_toArray, List.set_cons_zero, List.set_cons_succ]
            refine take_at 22 152 (v := ?_) rfl rfl (by kernel_rfl) (by kernel_rfl) (by kernel_rfl) (Or.inl ⟨by rfl, ?_⟩) hHeld ?_
            rotate_left
            · intro w hSw; go_simp; with_reducible rfl
            simp only [Act.put, List.setIfInBounds_toArray, List.set_cons_zero, List.set_cons_succ]
            refine take_at 24 154 (v := ?_) rfl rfl (by kernel_rfl) (by kernel_rfl) (by kernel_rfl) (Or.inl ⟨by rfl, ?_⟩) hHeld ?_
            rotate_left
            · intro w hSw; go_simp; with_reducible rfl
            simp only [Act.put, List.setIfInBounds_toArray, List.set_cons_zero, List.set_cons_succ]
            refine wpAnyH_ready (rs := [23]) (by kernel_rfl) (by simp) ?_
            refine AllReadyH.cons rfl (fun K2 hK => ?_) AllReadyH.nil
            refine (if_pos (by rfl)).mpr ?_
            go_simp
            refine (unhide CL0 _ _ (unhide O8).st).mono ?_
            rintro e w9 ⟨rfl, h1, h2⟩
            have O9 := hide ((unhide O8).call (St' := PP W P S A S K A) h1 h2)
            go_wp2_with fail
            clear hHeld
            refine hK.out _ _ (unhide SCL _ _ (unhide O9) (by simp)) (fun hHeld => ?_)
            clear hK K2 h1 h2 O8
            refine wpAnyH_ready (rs := [25]) (by kernel_rfl) (by simp) ?_
            refine AllReadyH.cons rfl (fun K2 hK => ?_) AllReadyH.nil
            refine (if_pos (by rfl)).mpr ?_
            go_simp
            refine (unhide CR0 _ _ (unhide O9).st).mono ?_
            rintro e w10 ⟨rfl, h1, h2⟩
            have O5 := hide ((unhide O9).call (St' := PP W P S A S K A) h1 h2)
            go_wp2_with fail
            clear hHeld
            refine hK.out _ _ (unhide SCL _ _ (unhide O5) (by simp)) (fun hHeld => ?_)
            clear hK K2 h1 h2 O9
            refine take_at 26 156 (v := ?_) rfl rfl (by kernel_rfl) (by kernel_rfl) (by kernel_rfl) (Or.inl ⟨by rfl, ?_⟩) hHeld ?_
            rotate_left
            · intro w hSw; go_simp; with_reducible rfl
            simp only [Act.put, List.setIfInBounds_toArray, List.set_cons_zero, List.set_cons_succ]
            refine take_at 27 157 (v := ?_) rfl rfl (by kernel_rfl) (by kernel_rfl) (by kernel_rfl) (Or.inl ⟨by rfl, ?_⟩) hHeld ?_
            rotate_left
            · intro w hSw; go_simp; with_reducible rfl
            simp only [Act.put, List.setIfInBounds_toArray, List.set_cons_zero, List.set_cons_succ]
            refine take_at 28 8 (v := ?_) rfl rfl (by kernel_rfl) (by kernel_rfl) (by kernel_rfl) (Or.inl ⟨by rfl, ?_⟩) hHeld ?_
            rotate_left
            · intro w hSw; go_simp; with_reducible rfl
            simp only [Act.put, List.setIfInBounds_toArray, List.set_cons_zero, List.set_cons_succ]
            refine wpAnyH_done (by kernel_rfl) ?_ _
            refine NoPanic.normal ?_
            clear hHeld
            go_wp2_with fail
            go_ret
            exact ⟨rfl, _, _, _, unhide FI2, ((unhide O5).less (PP.stay W P _ _ _ _ _) (L' := []) (fun p hp => by cases hp)).done (PP.stay W P _ _ _ _ _) (.bool true) |>.2.1, (unhide O5).2.2⟩
          · have OX0 := OX
            clear OX
            have OX := hide ((unhide OX0).alloc (PP.stay W P _ _ _ _ _) (.cells #[.int .i64 id, .int .i64 wd, .int .i64 id] 3))
            go_simp
            clear hHeld
            refine hK.out _ _ (unhide SCL _ _ (unhide OX) (by simp)) (fun hHeld => ?_)
            clear hK K2 OX0
            obtain ⟨gb, hgb⟩ : ∃ gb, gb = w4.heap.size := ⟨_, rfl⟩
            rw [← hgb] at OX ⊢
            clear hgb
            generalize w4.alloc _ = w5 at *
            refine wpAnyH_ready (rs := [9]) (by kernel_rfl) (by simp) ?_
            refine AllReadyH.cons rfl (fun K2 hK => ?_) AllReadyH.nil
            have OX0 := OX
            clear OX
            go_simp
            refine (unhide CL _ _ ga (unhide OX0).st (unhide AT ga _ _ (unhide OX0) (by simp))).mono ?_
            rintro e wn ⟨rfl, h1, h2⟩
            have OX := hide ((unhide OX0).call (St' := PP W P S A S K A) h1 h2)
            go_wp2_with fail
            clear hHeld
            refine hK.out _ _ (unhide SCL _ _ (unhide OX) (by simp)) (fun hHeld => ?_)
            clear hK K2 h1 h2 OX0
            have OX0 := OX
            clear OX
            refine wpAnyH_ready (rs := [19]) (by kernel_rfl) (by simp) ?_
            refine AllReadyH.cons rfl (fun K2 hK => ?_) AllReadyH.nil
            go_simp
            refine (unhide CR _ _ gb (unhide OX0).st (unhide AT gb _ _ (unhide OX0) (by simp))).mono ?_
            rintro e w8 ⟨rfl, h1, h2⟩
            have O8 := hide ((unhide OX0).call (St' := PP W P S A S K A) h1 h2)
            go_wp2_with fail
            clear hHeld
            refine hK.out _ _ (unhide SCL _ _ (unhide O8) (by simp)) (fun hHeld => ?_)
            clear hK K2 h1 h2 OX0
            refine take_at 20 150 (v := ?_) rfl rfl (by kernel_rfl) (by kernel_rfl) (by kernel_rfl) (Or.inl ⟨by rfl, ?_⟩) hHeld ?_
            rotate_left
            · intro w hSw; go_simp; with_reducible rfl
            simp only [Act.put, List.setIfInBounds_toArray, List.set_cons_zero, List.set_cons_succ]
            refine take_at 21 151 (v := ?_) rfl rfl (by kernel_rfl) (by kernel_rfl) (by kernel_rfl) (Or.inl ⟨by rfl, ?_⟩) hHeld ?_
            rotate_left
            · intro w hSw; go_simp; with_reducible rfl
            simp only [Act.put, List.setIfInBounds_toArray, List.set_cons_zero, List.set_cons_succ]
            refine take_at 22 152 (v := ?_) rfl rfl (by kernel_rfl) (by kernel_rfl) (by kernel_rfl) (Or.inl ⟨by rfl, ?_⟩) hHeld ?_
            rotate_left
            · intro w hSw; go_simp; with_reducible rfl
            simp only [Act.put, List.setIfInBounds_toArray, List.set_cons_zero, List.set_cons_succ]
            refine take_at 24 154 (v := ?_) rfl rfl (by kernel_rfl) (by kernel_rfl) (by kernel_rfl) (Or.inl ⟨by rfl, ?_⟩) hHeld ?_
            rotate_left
            · intro w hSw; go_simp; with_reducible rfl
            simp only [Act.put, List.setIfInBounds_toArray, List.set_cons_zero, List.set_cons_succ]
            refine wpAnyH_ready (rs := [23]) (by kernel_rfl) (by simp) ?_
            refine AllReadyH.cons rfl (fun K2 hK => ?_) AllReadyH.nil
            refine (if_pos (by rfl)).mpr ?_
            go_simp
            refine (unhide CL0 _ _ (unhide O8).st).mono ?_
            rintro e w9 ⟨rfl, h1, h2⟩
            have O9 := hide ((unhide O8).call (St' := PP W P S A S K A) h1 h2)
            go_wp2_with fail
            clear hHeld
            refine hK.out _ _ (unhide SCL _ _ (unhide O9) (by simp)) (fun hHeld => ?_)
            clear hK K2 h1 h2 O8
            refine wpAnyH_ready (rs := [25]) (by kernel_rfl) (by simp) ?_
            refine AllReadyH.cons rfl (fun K2 hK => ?_) AllReadyH.nil
            refine (if_pos (by rfl)).mpr ?_
            go_simp
            refine (unhide CR0 _ _ (unhide O9).st).mono ?_
            rintro e w10 ⟨rfl, h1, h2⟩
            have O5 := hide ((unhide O9).call (St' := PP W P S A S K A) h1 h2)
            go_wp2_with fail
            clear hHeld
            refine hK.out _ _ (unhide SCL _ _ (unhide O5) (by simp)) (fun hHeld => ?_)
            clear hK K2 h1 h2 O9
            refine take_at 26 156 (v := ?_) rfl rfl (by kernel_rfl) (by kernel_rfl) (by kernel_rfl) (Or.inl ⟨by rfl, ?_⟩) hHeld ?_
            rotate_left
            · intro w hSw; go_simp; with_reducible rfl
            simp only [Act.put, List.setIfInBounds_toArray, List.set_cons_zero, List.set_cons_succ]
            refine take_at 27 157 (v := ?_) rfl rfl (by kernel_rfl) (by kernel_rfl) (by kernel_rfl) (Or.inl ⟨by rfl, ?_⟩) hHeld ?_
            rotate_left
            · intro w hSw; go_simp; with_reducible rfl
            simp only [Act.put, List.setIfInBounds_toArray, List.set_cons_zero, List.set_cons_succ]
            refine take_at 28 8 (v := ?_) rfl rfl (by kernel_rfl) (by kernel_rfl) (by kernel_rfl) (Or.inl ⟨by rfl, ?_⟩) hHeld ?_
            rotate_left
            · intro w hSw; go_simp; with_reducible rfl
            simp only [Act.put, List.setIfInBounds_toArray, List.set_cons_zero, List.set_cons_succ]
            refine wpAnyH_done (by kernel_rfl) ?_ _
            refine NoPanic.normal ?_
            clear hHeld
            go_wp2_with fail
            go_ret
            exact ⟨rfl, _, _, _, unhide FI2, ((unhide O5).less (PP.stay W P _ _ _ _ _) (L' := []) (fun p hp => by cases hp)).done (PP.stay W P _ _ _ _ _) (.bool true) |>.2.1, (unhide O5).2.2⟩
        · have OX0 := O3
          clear O3
          have OX := hide ((unhide OX0).alloc (PP.stay W P _ _ _ _ _) (.cells #[.int .i64 id, .int .i64 wd, .int .i64 id] 3))
          go_simp
          clear hHeld
          refine hK.out _ _ (unhide SCL _ _ (unhide OX) (by simp)) (fun hHeld => ?_)
          clear hK K2 OX0
          obtain ⟨gb, hgb⟩ : ∃ gb, gb = w3.heap.size := ⟨_, rfl⟩
          rw [← hgb] at OX ⊢
          clear hgb
          generalize w3.alloc _ = w4 at *
          refine wpAnyH_ready (rs := [7]) (by kernel_rfl) (by simp) ?_
          refine AllReadyH.cons rfl (fun K2 hK => ?_) AllReadyH.nil
          have OX0 := OX
          clear OX
          have OX := hide ((unhide OX0).alloc (PP.stay W P _ _ _ _ _) (.cells #[.int .i64 id, .int .i64 wd, .int .i64 id] 3))
          go_simp
          clear hHeld
          refine hK.out _ _ (unhide SCL _ _ (unhide OX) (by simp)) (fun hHeld => ?_)
          clear hK K2 OX0
          obtain ⟨ga, hga⟩ : ∃ ga, ga = w4.heap.size := ⟨_, rfl⟩
          rw [← hga] at OX ⊢
          clear hga
          generalize w4.alloc _ = w5 at *
          refine wpAnyH_ready (rs := [9]) (by kernel_rfl) (by simp) ?_
          refine AllReadyH.cons rfl (fun K2 hK => ?_) AllReadyH.nil
          have OX0 := OX
          clear OX
          go_simp
          refine (unhide CL _ _ ga (unhide OX0).st (unhide AT ga _ _ (unhide OX0) (by simp))).mono ?_
          rintro e wn ⟨rfl, h1, h2⟩
          have OX := hide ((unhide OX0).call (St' := PP W P S A S K A) h1 h2)
          go_wp2_with fail
          clear hHeld
          refine hK.out _ _ (unhide SCL _ _ (unhide OX) (by simp)) (fun hHeld => ?_)
          clear hK K2 h1 h2 OX0
          have OX0 := OX
          clear OX
          refine wpAnyH_ready (rs := [19]) (by kernel_rfl) (by simp) ?_
          refine AllReadyH.cons rfl (fun K2 hK => ?_) AllReadyH.nil
          go_simp
          refine (unhide CR _ _ gb (unhide OX0).st (unhide AT gb _ _ (unhide OX0) (by simp))).mono ?_
          rintro e w8 ⟨rfl, h1, h2⟩
          have O8 := hide ((unhide OX0).call (St' := PP W P S A S K A) h1 h2)
          go_wp2_with fail
          clear hHeld
          refine hK.out _ _ (unhide SCL _ _ (unhide O8) (by simp)) (fun hHeld => ?_)
          clear hK K2 h1 h2 OX0
          refine take_at 20 150 (v := ?_) rfl rfl (by kernel_rfl) (by kernel_rfl) (by kernel_rfl) (Or.inl ⟨by rfl, ?_⟩) hHeld ?_
          rotate_left
          · intro w hSw; go_simp; with_reducible rfl
          simp only [Act.put, List.setIfInBounds_toArray, List.set_cons_zero, List.set_cons_succ]
          refine take_at 21 151 (v := ?_) rfl rfl (by kernel_rfl) (by kernel_rfl) (by kernel_rfl) (Or.inl ⟨by rfl, ?_⟩) hHeld ?_
          rotate_left
          · intro w hSw; go_simp; with_reducible rfl
          simp only [Act.put, List.setIfInBounds_toArray, List.set_cons_zero, List.set_cons_succ]
          refine take_at 22 152 (v := ?_) rfl rfl (by kernel_rfl) (by kernel_rfl) (by kernel_rfl) (Or.inl ⟨by rfl, ?_⟩) hHeld ?_
          rotate_left
          · intro w hSw; go_simp; with_reducible rfl
          simp only [Act.put, List.setIfInBounds_toArray, List.set_cons_zero, List.set_cons_succ]
          refine take_at 24 154 (v := ?_) rfl rfl (by kernel_rfl) (by kernel_rfl) (by kernel_rfl) (Or.inl ⟨by rfl, ?_⟩) hHeld ?_
          rotate_left
          · intro w hSw; go_simp; with_reducible rfl
          simp only [Act.put, List.setIfInBounds_toArray, List.set_cons_zero, List.set_cons_succ]
          refine wpAnyH_ready (rs := [23]) (by kernel_rfl) (by simp) ?_
          refine AllReadyH.cons rfl (fun K2 hK => ?_) AllReadyH.nil
          refine (if_pos (by rfl)).mpr ?_
          go_simp
          refine (unhide CL0 _ _ (unhide O8).st).mono ?_
          rintro e w9 ⟨rfl, h1, h2⟩
          have O9 := hide ((unhide O8).call (St' := PP W P S A S K A) h1 h2)
          go_wp2_with fail
          clear hHeld
          refine hK.out _ _ (unhide SCL _ _ (unhide O9) (by simp)) (fun hHeld => ?_)
          clear hK K2 h1 h2 O8
          refine wpAnyH_ready (rs := [25]) (by kernel_rfl) (by simp) ?_
          refine AllReadyH.cons rfl (fun K2 hK => ?_) AllReadyH.nil
          refine (if_pos (by rfl)).mpr ?_
          go_simp
          refine (unhide CR0 _ _ (unhide O9).st).mono ?_
          rintro e w10 ⟨rfl, h1, h2⟩
          have O5 := hide ((unhide O9).call (St' := PP W P S A S K A) h1 h2)
          go_wp2_with fail
          clear hHeld
          refine hK.out _ _ (unhide SCL _ _ (unhide O5) (by simp)) (fun hHeld => ?_)
          clear hK K2 h1 h2 O9
          refine take_at 26 156 (v := ?_) rfl rfl (by kernel_rfl) (by kernel_rfl) (by kernel_rfl) (Or.inl ⟨by rfl, ?_⟩) hHeld ?_
          rotate_left
          · intro w hSw; go_simp; with_reducible rfl
          simp only [Act.put, List.setIfInBounds_toArray, List.set_cons_zero, List.set_cons_succ]
          refine take_at 27 157 (v := ?_) rfl rfl (by kernel_rfl) (by kernel_rfl) (by kernel_rfl) (Or.inl ⟨by rfl, ?_⟩) hHeld ?_
          rotate_left
          · intro w hSw; go_simp; with_reducible rfl
          simp only [Act.put, List.setIfInBounds_toArray, List.set_cons_zero, List.set_cons_succ]
          refine take_at 28 8 (v := ?_) rfl rfl (by kernel_rfl) (by kernel_rfl) (by kernel_rfl) (Or.inl ⟨by rfl, ?_⟩) hHeld ?_
          rotate_left
          · intro w hSw; go_simp; with_reducible rfl
          simp only [Act.put, List.setIfInBounds_toArray, List.set_cons_zero, List.set_cons_succ]
          refine wpAnyH_done (by kernel_rfl) ?_ _
          refine NoPanic.normal ?_
          clear hHeld
          go_wp2_with fail
          go_ret
          exact ⟨rfl, _, _, _, unhide FI2, ((unhide O5).less (PP.stay W P _ _ _ _ _) (L' := []) (fun p hp => by cases hp)).done (PP.stay W P _ _ _ _ _) (.bool true) |>.2.1, (unhide O5).2.2⟩
      · skip
        have FI2 := hide ((unhide FI).mono (show B ≤ B + 8 by omega))
        have O5 := O2
        clear O2 c1 c2 c3
        go_wp2_with fail
        go_ret
        exact ⟨rfl, _, _, _, unhide FI2, ((unhide O5).less (PP.stay W P _ _ _ _ _) (L' := []) (fun p hp => by cases hp)).done (PP.stay W P _ _ _ _ _) (.bool true) |>.2.1, (unhide O5).2.2⟩

end Go.Proofs.YtinhnnnehhlceaaGreat
