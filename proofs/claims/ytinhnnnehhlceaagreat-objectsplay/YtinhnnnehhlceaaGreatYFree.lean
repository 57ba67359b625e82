
/-
  The document's free, Commit, Abort.
-/
import Derived.Test.YtinhnnnehhlceaaGreatYHas
import Derived.Test.YtinhnnnehhlceaaGreatYMark
import Derived.Test.YtinhnnnehhlceaaGreatPkUn
namespace Go.Proofs.YtinhnnnehhlceaaGreat
open Go.ChangeShapes Go.WideShapes Go.ChangeAt Go.RowKit Go.Joins
set_option maxRecDepth 10000
set_option linter.unusedVariables false
set_option linter.unusedSimpArgs false

theorem RowX.src {w : World} {base : Nat} {v : Value} {zs : List Int} (h : RowX base v zs w) : ∃ a cap, v = .slice a zs.length cap ∧ LiesI w a zs ∧ (a = none → zs.length = 0 ∧ cap = 0) := by
  by_cases hz : zs = []
  · subst hz
    rcases h.2 with ⟨h', _⟩ | ⟨g', cap, cur, h', _⟩
    · exact ⟨none, 0, h', Or.inl rfl, fun _ => ⟨rfl, rfl⟩⟩
    · exact ⟨_, cap, h', Or.inl rfl, fun e => by cases e⟩
  · obtain ⟨g, cap, rfl, -, -, hc⟩ := h.cell hz
    exact ⟨some ⟨g, 0, none⟩, cap, rfl, Or.inr ⟨g, 0, rfl, fun i hi => by rw [Nat.zero_add]; exact hc i hi⟩, fun e => by cases e⟩
theorem freeTo_lo (A : Fr) (nm : Nat → Bool) : A.freeTo nm A.lo = A := by
  unfold Fr.freeTo; cases A with
  | mk lo hi s =>
    congr 1
    funext i
    exact if_neg (fun c => by have := c.1.1.1; have := c.1.2; simp only at *; omega)
theorem freeTo_hi (A : Fr) (nm : Nat → Bool) (k : Nat) (hk : A.hi ≤ k) : A.freeTo nm k = A.freeTo nm A.hi := by
  unfold Fr.freeTo
  congr 1
  funext i
  by_cases c : ((A.lo ≤ i ∧ i < A.hi) ∧ i < A.hi) ∧ A.s i = 1 ∧ nm i = false
  · rw [if_pos c, if_pos ⟨⟨c.1.1, by omega⟩, c.2⟩]
  · rw [if_neg c, if_neg (fun q => c ⟨⟨q.1.1, q.1.1.2⟩, q.2⟩)]
/-- All lines that are named. -/
def nmL (S : Sto) : List Int := (linesL S.b ++ linesL S.w) ++ dirTo S.d 8
theorem nmL_has (S : Sto) (i : Nat) : hasL (nmL S) (i : Int) = S.nmB i := by
  rw [Bool.eq_iff_iff]
  unfold hasL nmL Sto.nmB
  rw [List.contains_iff_mem, List.mem_append, List.mem_append, linesL_mem, linesL_mem, dirTo_mem, Bool.or_eq_true, Bool.or_eq_true]
  constructor
  · rintro ((h | h) | h)
    · exact Or.inl (Or.inr h)
    · exact Or.inr h
    · exact Or.inl (Or.inl h)
  · rintro ((h | h) | h)
    · exact Or.inr h
    · exact Or.inl (Or.inl h)
    · exact Or.inl (Or.inr h)
theorem nmL_len (S : Sto) : (nmL S).length ≤ 106 := by
  have h1 : (linesL S.b).length ≤ 49 := linesTo_len _ 49
  have h2 : (linesL S.w).length ≤ 49 := linesTo_len _ 49
  have h3 : (dirTo S.d 8).length = 8 := by unfold dirTo; simp
  unfold nmL; rw [List.length_append, List.length_append, h3]; omega
theorem freeTo_lohi (A : Fr) (nm : Nat → Bool) (k : Nat) : (A.freeTo nm k).lo = A.lo ∧ (A.freeTo nm k).hi = A.hi := ⟨rfl, rfl⟩

set_option maxHeartbeats 8000000 in
theorem yfree_any {W w : World} {z y f g : Nat} {St : Mm → World → (Nat → Prop) → Prop} {S : Sto} {K : Nat → En} {A : Mm} {G : Nat → Prop} (M : MemR W z St) (h : YHas W z y f g St S K A w G) (hS : S.F.ok) :
    Calls Tryz.prog 143 #[.pointer (some ⟨y, 0, none⟩)] w (Done (YHas W z y f g St S.freed K A) w G (.tuple #[])) := by
  have HH := hide h
  have lb : (linesL S.b).length ≤ 49 := linesTo_len _ 49
  have lw : (linesL S.w).length ≤ 49 := linesTo_len _ 49
  have ld : (dirTo S.d 8).length = 8 := by unfold dirTo; simp
  have CB := hide (fun w' => rlines_any S.b w')
  have CW := hide (fun w' => rlines_any S.w w')
  have RR : Hid (∀ w', Keeps (fun _ => False) w w' → w'.rangeAt y 149 (tabV S.b).toList ∧ w'.rangeAt y 2 (tabV S.w).toList) := fun w' hk => ⟨(h.rep.keeps hk id).rb, (h.rep.keeps hk id).rw⟩
  have DC : Hid (∀ w', Keeps (fun _ => False) w w' → LiesI w' (some ⟨y, 296, none⟩) (dirTo S.d 8)) := fun w' hk => Or.inr ⟨y, 296, rfl, fun i hi => by
    rw [ld] at hi
    rw [(h.rep.keeps hk id).cd i hi, List.getD_eq_getElem?_getD]
    unfold dirTo
    simp [hi]⟩
  have s49b : (Tryz.prog.info? 42).map (·.size) = some (tabV S.b).toList.length := by rw [Array.length_toList, tabV_size]; kernel_rfl
  have s49w : (Tryz.prog.info? 42).map (·.size) = some (tabV S.w).toList.length := by rw [Array.length_toList, tabV_size]; kernel_rfl
  have h1024 := hS.2.1
  have hlh := hS.1
  have HOK := hide hS
  clear h hS
  obtain ⟨TB, hTB⟩ : ∃ TB, TB = tabV S.b := ⟨_, rfl⟩
  obtain ⟨TW, hTW⟩ : ∃ TW, TW = tabV S.w := ⟨_, rfl⟩
  rw [← hTB] at CB RR s49b
  rw [← hTW] at CW RR s49w
  clear hTB hTW
  go_enter Tryz.func143, Tryz.ntmps143
  go_upto_region 0 with fail
  refine wp_region_noPanic ?_
  have KD : Hid (Keeps (fun _ => False) w w.drew) := (Keeps.refl _ _).drew
  refine wp_region_held_drew (S := fun w' => Keeps (fun _ => False) w.drew w') (by kernel_rfl) (Keeps.refl _ _) (fun hHeld => ?_)
  generalize w.drew = w0 at *
  refine take_at 0 4 (v := ?_) rfl rfl (by kernel_rfl) (by kernel_rfl) (by kernel_rfl) (Or.inl ⟨by rfl, ?_⟩) hHeld ?_
  rotate_left
  · intro w hSw; go_simp; with_reducible rfl
  simp only [Act.put, List.setIfInBounds_toArray, List.set_cons_zero, List.set_cons_succ]
  refine take_at 1 5 (v := ?_) rfl rfl (by kernel_rfl) (by kernel_rfl) (by kernel_rfl) (Or.inl ⟨by rfl, ?_⟩) hHeld ?_
  rotate_left
  · intro w hSw; go_simp; with_reducible rfl
  simp only [Act.put, List.setIfInBounds_toArray, List.set_cons_zero, List.set_cons_succ]
  refine take_at 2 6 (v := ?_) rfl rfl (by kernel_rfl) (by kernel_rfl) (by kernel_rfl) (Or.inl ⟨by rfl, ?_⟩) hHeld ?_
  rotate_left
  · intro w hSw; go_simp; with_reducible rfl
  simp only [Act.put, List.setIfInBounds_toArray, List.set_cons_zero, List.set_cons_succ]
  refine take_at 3 7 rfl rfl (by kernel_rfl) (by kernel_rfl) (by kernel_rfl) (yieldsIf_load_mid (by rfl) 42 _ rfl y 149 rfl TB.toList _ (fun w' h => (unhide RR w' ((unhide KD).trans' h)).1) Tryz.underlying42 rfl s49b) hHeld ?_
  simp only [Act.put, List.setIfInBounds_toArray, List.set_cons_zero, List.set_cons_succ]
  refine take_at 5 9 (v := ?_) rfl rfl (by kernel_rfl) (by kernel_rfl) (by kernel_rfl) (Or.inl ⟨by rfl, ?_⟩) hHeld ?_
  rotate_left
  · intro w hSw; go_simp; with_reducible rfl
  simp only [Act.put, List.setIfInBounds_toArray, List.set_cons_zero, List.set_cons_succ]
  refine take_at 6 10 (v := ?_) rfl rfl (by kernel_rfl) (by kernel_rfl) (by kernel_rfl) (Or.inl ⟨by rfl, ?_⟩) hHeld ?_
  rotate_left
  · intro w hSw; go_simp; with_reducible rfl
  simp only [Act.put, List.setIfInBounds_toArray, List.set_cons_zero, List.set_cons_succ]
  refine take_at 7 11 (v := ?_) rfl rfl (by kernel_rfl) (by kernel_rfl) (by kernel_rfl) (Or.inl ⟨by rfl, ?_⟩) hHeld ?_
  rotate_left
  · intro w hSw; go_simp; with_reducible rfl
  simp only [Act.put, List.setIfInBounds_toArray, List.set_cons_zero, List.set_cons_succ]
  refine take_at 8 12 rfl rfl (by kernel_rfl) (by kernel_rfl) (by kernel_rfl) (yieldsIf_load_mid (by rfl) 42 _ rfl y 2 rfl TW.toList _ (fun w' h => (unhide RR w' ((unhide KD).trans' h)).2) Tryz.underlying42 rfl s49w) hHeld ?_
  simp only [Act.put, List.setIfInBounds_toArray, List.set_cons_zero, List.set_cons_succ]
  refine take_at 11 15 (v := ?_) rfl rfl (by kernel_rfl) (by kernel_rfl) (by kernel_rfl) (Or.inl ⟨by rfl, ?_⟩) hHeld ?_
  rotate_left
  · intro w hSw; go_simp; with_reducible rfl
  simp only [Act.put, List.setIfInBounds_toArray, List.set_cons_zero, List.set_cons_succ]
  refine take_at 12 16 (v := ?_) rfl rfl (by kernel_rfl) (by kernel_rfl) (by kernel_rfl) (Or.inl ⟨by rfl, ?_⟩) hHeld ?_
  rotate_left
  · intro w hSw; go_simp; with_reducible rfl
  simp only [Act.put, List.setIfInBounds_toArray, List.set_cons_zero, List.set_cons_succ]
  refine take_at 13 17 (v := ?_) rfl rfl (by kernel_rfl) (by kernel_rfl) (by kernel_rfl) (Or.inl ⟨by rfl, ?_⟩) hHeld ?_
  rotate_left
  · intro w hSw; go_simp; with_reducible rfl
  simp only [Act.put, List.setIfInBounds_toArray, List.set_cons_zero, List.set_cons_succ]
  refine take_at 14 18 (v := ?_) rfl rfl (by kernel_rfl) (by kernel_rfl) (by kernel_rfl) (Or.inl ⟨by rfl, ?_⟩) hHeld ?_
  rotate_left
  · intro w hSw; go_simp; with_reducible rfl
  simp only [Act.put, List.setIfInBounds_toArray, List.set_cons_zero, List.set_cons_succ]
  refine wpAnyH_ready (rs := [4]) (by kernel_rfl) (by simp) ?_
  refine AllReadyH.cons rfl (fun K2 hK => ?_) AllReadyH.nil
  go_simp
  refine (unhide CB _).mono ?_
  rintro e w1 ⟨v8, rfl, hk1, hr1⟩
  go_wp2_with fail
  have HV1 := hide (hHeld.trans' hk1)
  clear hHeld
  refine hK.out _ _ (unhide HV1) (fun hNew => ?_)
  have HR1 := hide hr1
  have HK1 := hide hk1
  clear hK K2 hNew hr1 hk1
  have hHeld := unhide HV1
  refine wpAnyH_ready (rs := [9]) (by kernel_rfl) (by simp) ?_
  refine AllReadyH.cons rfl (fun K2 hK => ?_) AllReadyH.nil
  go_simp
  refine (unhide CW _).mono ?_
  rintro e w2 ⟨v13, rfl, hk2, hr2⟩
  go_wp2_with fail
  have HV2 := hide ((unhide HV1).trans' hk2)
  clear hHeld
  refine hK.out _ _ (unhide HV2) (fun hNew => ?_)
  have HR1b : Hid (RowX w0.heap.size v8 (linesL S.b) w2) := (unhide HR1).same fun k e => hk2.block k ((unhide HR1).lt k e).2 id
  obtain ⟨a13, c13, rfl, hl13, hn13⟩ := hr2.src
  have HL13 := hide hl13
  have HN13 := hide hn13
  clear hK K2 hNew hr2 hk2 hl13 hn13 HR1 HK1 HV1
  have hHeld := unhide HV2
  refine wpAnyH_ready (rs := [10]) (by kernel_rfl) (by simp) ?_
  refine AllReadyH.cons rfl (fun K2 hK => ?_) AllReadyH.nil
  refine (if_pos (by rfl)).mpr ?_
  refine wp_append_ints (.tmp 8) (.tmp 13) rfl w0.heap.size v8 (linesL S.b) (linesL S.w) rfl (unhide HR1b) a13 c13 rfl (unhide HN13) (unhide HL13) (by omega) (unhide HV2).size ?_
  intro v14 w3 hr3 hg3
  have HV3 := hide (keeps_app (unhide HV2) (unhide HR1b) hg3)
  clear hHeld
  refine hK.out _ _ (unhide HV3) (fun hNew => ?_)
  have HR3 := hide hr3
  clear hK K2 hNew hr3 hg3 HL13 HN13 HR1b HV2
  have hHeld := unhide HV3
  refine wpAnyH_ready (rs := [15]) (by kernel_rfl) (by simp) ?_
  refine AllReadyH.cons rfl (fun K2 hK => ?_) AllReadyH.nil
  refine (if_pos (by rfl)).mpr ?_
  refine wp_append_ints (.tmp 14) (.tmp 18) rfl w0.heap.size v14 (linesL S.b ++ linesL S.w) (dirTo S.d 8) rfl (unhide HR3) (some ⟨y, 296, none⟩) 8 rfl (fun e => by cases e) (unhide DC _ ((unhide KD).trans' (unhide HV3))) (by rw [List.length_append]; omega) (unhide HV3).size ?_
  intro v19 w4 hr4 hg4
  have HV4 := hide (keeps_app (unhide HV3) (unhide HR3) hg4)
  clear hHeld
  refine hK.out _ _ (unhide HV4) (fun hNew => ?_)
  have HR4 : Hid (RowX w0.heap.size v19 (nmL S) w4) := hr4
  clear hK K2 hNew hr4 hg4 HR3 HV3 CB CW RR DC
  have hHeld := unhide HV4
  refine take_at 16 2 (v := ?_) rfl rfl (by kernel_rfl) (by kernel_rfl) (by kernel_rfl) (Or.inl ⟨by rfl, ?_⟩) hHeld ?_
  rotate_left
  · intro w hSw; go_simp; with_reducible rfl
  simp only [Act.put, List.setIfInBounds_toArray, List.set_cons_zero, List.set_cons_succ]
  refine wpAnyH_done (by kernel_rfl) ?_ _
  refine NoPanic.normal ?_
  have K4 := hide ((unhide KD).trans' (unhide HV4))
  have HBS := (unhide KD).size
  have hl106 := nmL_len S
  obtain ⟨l, hl⟩ : ∃ l, l = nmL S := ⟨_, rfl⟩
  rw [← hl] at HR4 hl106
  have NM : Hid (∀ i : Nat, hasL l (i : Int) = S.nmB i) := fun i => by rw [hl]; exact nmL_has S i
  obtain ⟨a, cap, rfl, hlies, -⟩ := (unhide HR4).src
  have hown : ∀ k, (Value.slice a l.length cap).ownBlock = some k → k ≠ g := fun k e => by
    have h1 := ((unhide HR4).lt k e).1
    have h2 := (unhide HH).fr.bl.lt
    omega
  have HOWN := hide hown
  obtain ⟨n, hn⟩ : ∃ n, n = S.F.hi - S.F.lo := ⟨_, rfl⟩
  have n1024 : n ≤ 1024 := by omega
  have HN : Hid (S.F.lo + n = S.F.hi) := by show _ = _; omega
  have F0 : Hid (RFRep w4 f g (S.F.freeTo S.nmB (S.F.lo + 0))) := by show RFRep _ _ _ _; rw [Nat.add_zero, freeTo_lo]; exact (unhide HH).fr.keeps (unhide K4) id id
  have HYC : Hid (∀ w', Keeps (· = g) w4 w' → w'.cell? ⟨y, 1, none⟩ = some (.pointer (some ⟨f, 0, none⟩))) := fun w' hk => (((unhide HH).rep.keeps (unhide K4) id).keeps hk (unhide HH).yg).c1
  have HROW : Hid (∀ w', Keeps (· = g) w4 w' → LiesI w' a l) := fun w' hk => by
    obtain ⟨a', c', e', q, -⟩ := ((unhide HR4).same (w' := w') fun k e => hk.block k ((unhide HR4).lt k e).2 (unhide HOWN k e)).src
    cases e'
    exact q
  have llo : S.F.lo ≤ 1024 := by omega
  clear hHeld HV4 hl hlies hown hn KD HR4 HOWN HBS
  go_wp2_with fail
  go_loopw [3] (fun q wr => ∃ j : Nat, j ≤ n ∧ q = .int .i64 j ∧ RFRep wr f g (S.F.freeTo S.nmB (S.F.lo + j)) ∧ Keeps (· = g) w4 wr) (fun q _ => n - (intOf q).toNat)
  case atStart => exact ⟨0, by omega, rfl, unhide F0, Keeps.refl _ _⟩
  case round =>
    clear F0
    obtain ⟨j, hj, rfl, hf, hk⟩ := hrel
    have HF := hide hf
    have HK := hide hk
    clear hf hk
    have cy := unhide HYC _ (unhide HK)
    have cf0 := (unhide HF).c0
    have cf1 := (unhide HF).c1
    rw [show (S.F.freeTo S.nmB (S.F.lo + j)).lo = S.F.lo from rfl] at cf0
    rw [show (S.F.freeTo S.nmB (S.F.lo + j)).hi - (S.F.freeTo S.nmB (S.F.lo + j)).lo = n by have := unhide HN; show S.F.hi - S.F.lo = n; omega] at cf1
    by_cases hlt : j < n
    · have hjn : (j : Int) < (n : Int) := by omega
      obtain ⟨p, hp⟩ : ∃ p, p = S.F.lo + j := ⟨_, rfl⟩
      have hpp : (S.F.lo : Int) + (j : Int) = (p : Int) := by omega
      have hp2 : p ≤ 2048 := by omega
      have hwr := wrap_nat p (by omega)
      have CI := hide (rin_any wr a l cap (p : Int) (unhide HROW _ (unhide HK)) (by omega))
      rw [unhide NM p] at CI
      have FS := hide (freeTo_same S.F S.nmB p)
      have FN := hide (freeTo_next S.F S.nmB p)
      have CF := hide (fun (w' : World) (h' : RFRep w' f g (S.F.freeTo S.nmB p)) => rffree_any h' (freeTo_ok (unhide HOK) _ _) (p : Int) ⟨by omega, by omega⟩)
      rw [← hp] at HF
      have hp1 : S.F.lo + (j + 1) = p + 1 := by omega
      have HP1 := hide hp1
      clear hp hp1
      obtain ⟨loz, hloz⟩ : ∃ loz, (S.F.lo : Int) = loz := ⟨_, rfl⟩
      rw [hloz] at cf0 hpp
      have HLO := hide hloz
      clear hloz
      cases hnm : S.nmB p with
      | true =>
        have FS1 := hide (unhide FS hnm)
        rw [hnm] at CI
        go_wp2_with fail
        refine (unhide CI).mono ?_
        rintro e w5 ⟨rfl, hw5⟩
        subst hw5
        go_wp2_with fail
        go_roundw
        case rel => exact ⟨j + 1, by omega, by go_num, by rw [unhide HP1, unhide FS1]; exact unhide HF, unhide HK⟩
        case measure => simp [intOf]; omega
      | false =>
        have FN1 := hide (unhide FN hnm)
        rw [hnm] at CI
        clear FS FN
        go_wp2_with fail
        refine (unhide CI).mono ?_
        rintro e w5 ⟨rfl, hw5⟩
        subst hw5
        clear CI
        go_upto_region 5 with fail
        have KDr : Hid (Keeps (· = g) w4 w5.drew) := (unhide HK).drew
        have HFr : Hid (RFRep w5.drew f g (S.F.freeTo S.nmB p)) := (unhide HF).drewN 1
        refine wp_region_noPanic ?_
        refine wp_region_held_drew (S := fun w' => w'.cell? ⟨y, 1, none⟩ = some (.pointer (some ⟨f, 0, none⟩)) ∧ w'.cell? ⟨f, 0, none⟩ = some (.int .i64 loz)) (by kernel_rfl) ⟨cy, cf0⟩ (fun hHeld => ?_)
        clear HK HF cy cf0 cf1
        generalize w5.drew = w6 at *
        refine take_at 0 44 (v := ?_) rfl rfl (by kernel_rfl) (by kernel_rfl) (by kernel_rfl) (Or.inl ⟨by rfl, ?_⟩) hHeld ?_
        rotate_left
        · intro w hSw; go_simp; with_reducible rfl
        simp only [Act.put, List.setIfInBounds_toArray, List.set_cons_zero, List.set_cons_succ]
        refine take_at 1 45 (v := ?_) rfl rfl (by kernel_rfl) (by kernel_rfl) (by kernel_rfl) (Or.inl ⟨by rfl, ?_⟩) hHeld ?_
        rotate_left
        · intro w hSw; go_simp; with_reducible rfl
        simp only [Act.put, List.setIfInBounds_toArray, List.set_cons_zero, List.set_cons_succ]
        refine take_at 2 46 (v := ?_) rfl rfl (by kernel_rfl) (by kernel_rfl) (by kernel_rfl) (Or.inl ⟨by rfl, ?_⟩) hHeld ?_
        rotate_left
        · intro w hSw; go_simp; with_reducible rfl
        simp only [Act.put, List.setIfInBounds_toArray, List.set_cons_zero, List.set_cons_succ]
        refine take_at 3 47 (v := ?_) rfl rfl (by kernel_rfl) (by kernel_rfl) (by kernel_rfl) (Or.inl ⟨by rfl, ?_⟩) hHeld ?_
        rotate_left
        · intro w hSw; obtain ⟨s1, s2⟩ := hSw; go_simp; with_reducible rfl
        simp only [Act.put, List.setIfInBounds_toArray, List.set_cons_zero, List.set_cons_succ]
        refine take_at 4 48 (v := ?_) rfl rfl (by kernel_rfl) (by kernel_rfl) (by kernel_rfl) (Or.inl ⟨by rfl, ?_⟩) hHeld ?_
        rotate_left
        · intro w hSw; go_simp; with_reducible rfl
        simp only [Act.put, List.setIfInBounds_toArray, List.set_cons_zero, List.set_cons_succ]
        refine take_at 5 49 (v := ?_) rfl rfl (by kernel_rfl) (by kernel_rfl) (by kernel_rfl) (Or.inl ⟨by rfl, ?_⟩) hHeld ?_
        rotate_left
        · intro w hSw; go_simp; with_reducible rfl
        simp only [Act.put, List.setIfInBounds_toArray, List.set_cons_zero, List.set_cons_succ]
        refine take_at 6 50 (v := ?_) rfl rfl (by kernel_rfl) (by kernel_rfl) (by kernel_rfl) (Or.inl ⟨by rfl, ?_⟩) hHeld ?_
        rotate_left
        · intro w hSw; go_simp; with_reducible rfl
        simp only [Act.put, List.setIfInBounds_toArray, List.set_cons_zero, List.set_cons_succ]
        refine take_at 7 51 (v := ?_) rfl rfl (by kernel_rfl) (by kernel_rfl) (by kernel_rfl) (Or.inl ⟨by rfl, ?_⟩) hHeld ?_
        rotate_left
        · intro w hSw; obtain ⟨s1, s2⟩ := hSw; go_simp; with_reducible rfl
        simp only [Act.put, List.setIfInBounds_toArray, List.set_cons_zero, List.set_cons_succ]
        refine take_at 8 52 (v := ?_) rfl rfl (by kernel_rfl) (by kernel_rfl) (by kernel_rfl) (Or.inl ⟨by rfl, ?_⟩) hHeld ?_
        rotate_left
        · intro w hSw; go_simp; with_reducible rfl
        simp only [Act.put, List.setIfInBounds_toArray, List.set_cons_zero, List.set_cons_succ]
        refine take_at 9 53 (v := ?_) rfl rfl (by kernel_rfl) (by kernel_rfl) (by kernel_rfl) (Or.inl ⟨by rfl, ?_⟩) hHeld ?_
        rotate_left
        · intro w hSw; go_simp; with_reducible rfl
        simp only [Act.put, List.setIfInBounds_toArray, List.set_cons_zero, List.set_cons_succ]
        refine take_at 10 54 (v := ?_) rfl rfl (by kernel_rfl) (by kernel_rfl) (by kernel_rfl) (Or.inl ⟨by rfl, ?_⟩) hHeld ?_
        rotate_left
        · intro w hSw; obtain ⟨s1, s2⟩ := hSw; go_simp; with_reducible rfl
        simp only [Act.put, List.setIfInBounds_toArray, List.set_cons_zero, List.set_cons_succ]
        refine take_at 11 55 (v := ?_) rfl rfl (by kernel_rfl) (by kernel_rfl) (by kernel_rfl) (Or.inl ⟨by rfl, ?_⟩) hHeld ?_
        rotate_left
        · intro w hSw; go_simp; with_reducible rfl
        simp only [Act.put, List.setIfInBounds_toArray, List.set_cons_zero, List.set_cons_succ]
        refine take_at 12 56 (v := ?_) rfl rfl (by kernel_rfl) (by kernel_rfl) (by kernel_rfl) (Or.inl ⟨by rfl, ?_⟩) hHeld ?_
        rotate_left
        · intro w hSw; go_simp; with_reducible rfl
        simp only [Act.put, List.setIfInBounds_toArray, List.set_cons_zero, List.set_cons_succ]
        refine wpAnyH_ready (rs := [13]) (by kernel_rfl) (by simp) ?_
        refine AllReadyH.cons rfl (fun K2 hK => ?_) AllReadyH.nil
        go_simp
        first | rw [hwr] | skip
        refine (unhide CF _ (unhide HFr)).mono ?_
        rintro e w7 ⟨rfl, h1, h2⟩
        go_wp2_with fail
        clear hHeld
        have HK7 := hide ((unhide KDr).trans' h2)
        rw [← unhide FN1] at h1
        have HF7 := hide h1
        have cf07 := h1.c0
        rw [show (S.F.freeTo S.nmB (p + 1)).lo = S.F.lo from rfl, unhide HLO] at cf07
        refine hK.out _ _ ⟨unhide HYC _ (unhide HK7), cf07⟩ (fun hNew => ?_)
        clear hK K2 hNew h1 h2 CF HFr KDr cf07
        refine wpAnyH_done (by kernel_rfl) ?_ _
        refine NoPanic.normal ?_
        go_wp2_with fail
        go_roundw
        case rel => exact ⟨j + 1, by omega, by go_num, by rw [unhide HP1]; exact unhide HF7, unhide HK7⟩
        case measure => simp [intOf]; omega
    · have ejn : j = n := by omega
      have hge : ¬ ((j : Int) < (n : Int)) := by omega
      have EF : Hid (S.F.freeTo S.nmB (S.F.lo + j) = S.F.freeTo S.nmB 1024) := by
        show _ = _
        rw [ejn, unhide HN]
        exact (freeTo_hi S.F S.nmB 1024 h1024).symm
      rw [unhide EF] at HF
      go_wp2_with fail
      go_end0
      exact (unhide HH).went M ⟨rfl, unhide HF, ((unhide K4).mono (fun _ _ h => h.elim)).trans' (unhide HK)⟩

theorem YHas.withk {W w : World} {z y f g : Nat} {St : Mm → World → (Nat → Prop) → Prop} {S : Sto} {K : Nat → En} {A : Mm} {G : Nat → Prop} (h : YHas W z y f g St S K A w G) (k : Nat → En) : YHas W z y f g St ⟨S.F, S.w, S.b, S.d, k, S.is⟩ K A w G :=
  ⟨h.rep, h.fr, h.st, h.ny, h.nf, h.ng, h.yf, h.yg, h.wy, h.wf, h.wg⟩
set_option maxHeartbeats 2000000 in
theorem yabort_any {W w : World} {z y f g : Nat} {St : Mm → World → (Nat → Prop) → Prop} {S : Sto} {K : Nat → En} {A : Mm} {G : Nat → Prop} (M : MemR W z St) (h : YHas W z y f g St S K A w G) (hS : S.F.ok) :
    Calls Tryz.prog 91 #[.pointer (some ⟨y, 0, none⟩)] w (Done (YHas W z y f g St S.abortS K A) w G (.int .i64 S.doneE)) := by
  have cis := h.rep.cis
  have fis := h.rep.fr 451
  have HH := hide h
  cases his : S.is with
  | false =>
    have e1 : S.abortS = S := by unfold Sto.abortS; rw [his]; rfl
    have e2 : S.doneE = 3 := by unfold Sto.doneE; rw [his]; rfl
    rw [e1, e2]
    rw [his] at cis
    clear h e1 e2 hS
    go_enter Tryz.func91, Tryz.ntmps91
    go_wp2_with fail
    go_ret
    exact ⟨rfl, unhide HH, fun _ _ => rfl⟩
  | true =>
    have e1 : S.abortS = (Sto.mk S.F S.w S.b S.d (fun _ => ze) false).freed := by unfold Sto.abortS Sto.unmarkS; rw [his]; rfl
    have e2 : S.doneE = 0 := by unfold Sto.doneE; rw [his]; rfl
    rw [e1, e2]
    rw [his] at cis
    have r1 := h.rep.putIs false
    have HD := hide ((h.withk (fun _ => ze)).turned (S' := ⟨S.F, S.w, S.b, S.d, fun _ => ze, false⟩) (K' := K) M r1 rfl (Keeps.setCell (F := (· = y)) (p := ⟨y, 451, none⟩) (Keeps.refl _ _) rfl _))
    have CF := hide (fun (w' : World) G' (h' : YHas W z y f g St ⟨S.F, S.w, S.b, S.d, fun _ => ze, false⟩ K A w' G') => yfree_any M h' hS)
    clear h e1 e2 hS r1 HH
    go_enter Tryz.func91, Tryz.ntmps91
    go_wp2_with fail
    refine (unhide CF _ _ (unhide HD).1).mono ?_
    rintro e w1 ⟨rfl, h1, h2⟩
    have H1 := hide h1
    have H2 := hide ((unhide HD).2.trans h2)
    clear h1 h2 HD CF
    go_wp2_with fail
    go_ret
    exact ⟨rfl, unhide H1, unhide H2⟩

set_option maxHeartbeats 4000000 in
theorem ycommit_any {W w : World} {z y f g : Nat} {St : Mm → World → (Nat → Prop) → Prop} {S : Sto} {K : Nat → En} {A : Mm} {G : Nat → Prop} (M : MemR W z St) (h : YHas W z y f g St S K A w G) (hm : Mks S K) (hS : S.F.ok) (d : Nat → Int) :
    Calls Tryz.prog 108 #[.pointer (some ⟨y, 0, none⟩), .agg (dirV d)] w (Done (YHas W z y f g St (S.commitS d) K A) w G (.int .i64 S.doneE)) := by
  have T0 := hide (YHas.stay M y f g S K A)
  have O0 := hide ((Held.start (unhide T0) h).alloc (unhide T0) (.cells (dirV d) 44))
  cases his : S.is with
  | false =>
    have e1 : S.commitS d = S := by unfold Sto.commitS; rw [his]; rfl
    have e2 : S.doneE = 3 := by unfold Sto.doneE; rw [his]; rfl
    rw [e1, e2]
    have cis := (unhide O0).st.rep.cis
    rw [his] at cis
    clear h e1 e2 hS hm
    generalize dirV d = DV at *
    go_enter Tryz.func108, Tryz.ntmps108
    go_wp2_with fail
    go_ret
    exact (unhide O0).done (unhide T0) _
  | true =>
    have hK := hm.1 his
    have e1 : S.commitS d = (Sto.mk S.F S.w K d (fun _ => ze) false).freed := by unfold Sto.commitS Sto.unmarkS; rw [his, hK]; rfl
    have e2 : S.doneE = 0 := by unfold Sto.doneE; rw [his]; rfl
    rw [e1, e2]
    have s49 : (Tryz.prog.info? 42).map (·.size) = some (tabV K).toList.length := by rw [Array.length_toList, tabV_size]; kernel_rfl
    have s49' : (Tryz.prog.info? 42).map (·.size) = some (tabV K).size := by rw [tabV_size]; kernel_rfl
    have s8 : (Tryz.prog.info? 44).map (·.size) = some (dirV d).size := by rw [dirV_size]; kernel_rfl
    have X1 := hide (tabV_one K)
    have X2 := hide (dirV_one d)
    have CF := hide (fun (w' : World) G' (h' : YHas W z y f g St ⟨S.F, S.w, K, d, fun _ => ze, false⟩ K A w' G') => yfree_any M h' hS)
    have P1 := hide (fun (w' : World) G' (h' : YHas W z y f g St S K A w' G') => h'.turned (S' := ⟨S.F, S.w, K, S.d, S.k, S.is⟩) (K' := K) M (h'.rep.putB K) rfl (keeps_cells y (tabV K).toList w' 149))
    have P2 := hide (fun (w' : World) G' (h' : YHas W z y f g St ⟨S.F, S.w, K, S.d, S.k, S.is⟩ K A w' G') => h'.turned (S' := ⟨S.F, S.w, K, d, S.k, S.is⟩) (K' := K) M (h'.rep.putD d) rfl (keeps_cells y (dirV d).toList w' 296))
    have P3 := hide (fun (w' : World) G' (h' : YHas W z y f g St ⟨S.F, S.w, K, d, S.k, S.is⟩ K A w' G') => (h'.withk (fun _ => ze)).turned (S' := ⟨S.F, S.w, K, d, fun _ => ze, false⟩) (K' := K) M (h'.rep.putIs false) rfl (Keeps.setCell (F := (· = y)) (p := ⟨y, 451, none⟩) (Keeps.refl _ _) rfl _))
    clear h e1 e2 hS hm hK
    obtain ⟨DV, hDV⟩ : ∃ DV, DV = dirV d := ⟨_, rfl⟩
    rw [← hDV] at O0 s8 X2 P2
    rw [← hDV]
    obtain ⟨TK, hTK⟩ : ∃ TK, TK = tabV K := ⟨_, rfl⟩
    rw [← hTK] at s49 s49' X1 P1
    have HTK := hide hTK
    have HDV := hide hDV
    clear hTK hDV
    go_enter Tryz.func108, Tryz.ntmps108
    go_upto_region 1 with fail
    obtain ⟨g3, hg3⟩ : ∃ g3, g3 = w.heap.size := ⟨_, rfl⟩
    rw [← hg3] at O0 ⊢
    clear hg3
    generalize w.alloc (.cells DV 44) = w0 at *
    have cis := (unhide O0).st.rep.cis
    rw [his] at cis
    have RK := hide ((unhide O0).st.rep.rk)
    rw [← unhide HTK] at RK
    have TH : Hid (w0.there y 149 TK.size) := by rw [unhide HTK, tabV_size]; exact Blk.there (unhide O0).st.rep 149 147 (by decide)
    have O1 := hide (Held.turn (St' := YHas W z y f g St ⟨S.F, S.w, K, S.d, S.k, S.is⟩ K A) (unhide O0) (unhide P1 _ _ (unhide O0).st))
    clear O0 T0 P1
    go_upto_region 4 with (first | (with_reducible refine wpList_load_mid (by with_unfolding_all rfl) 42 _ (by with_unfolding_all rfl) y 304 (by with_unfolding_all rfl) TK.toList _ (unhide RK) Tryz.underlying42 (by with_unfolding_all rfl) s49 ?_) | (with_reducible refine wpList_store_mid (by with_unfolding_all rfl) 42 _ _ (by with_unfolding_all rfl) y 149 TK (by with_unfolding_all rfl) (by with_unfolding_all rfl) (unhide TH) s49' (unhide X1) ?_))
    clear cis RK TH
    generalize w0.setCells y 149 TK.toList = w1 at *
    have KL := hide ((unhide O1).at g3 (.cells DV 44) (by simp))
    have TH : Hid (w1.there y 296 DV.size) := by rw [unhide HDV, dirV_size]; exact Blk.there (unhide O1).st.rep 296 8 (by decide)
    have O2 := hide (Held.turn (St' := YHas W z y f g St ⟨S.F, S.w, K, d, S.k, S.is⟩ K A) (unhide O1) (unhide P2 _ _ (unhide O1).st))
    clear O1 P2
    go_upto_region 5 with (first | (with_reducible refine wpList_load_row (by with_unfolding_all rfl) 44 _ (by with_unfolding_all rfl) g3 (by with_unfolding_all rfl) _ _ _ _ (unhide KL) Tryz.underlying44 (by with_unfolding_all rfl) s8 ?_) | (with_reducible refine wpList_store_mid (by with_unfolding_all rfl) 44 _ _ (by with_unfolding_all rfl) y 296 DV (by with_unfolding_all rfl) (by with_unfolding_all rfl) (unhide TH) s8 (unhide X2) ?_))
    clear KL TH
    generalize w1.setCells y 296 DV.toList = w2 at *
    have cis : w2.cell? ⟨y, 451, none⟩ = some (.bool S.is) := (unhide O2).st.rep.cis
    have fis : w2.frozen? ⟨y, 451, none⟩ = false := (unhide O2).st.rep.fr 451
    have O3 := hide (Held.turn (St' := YHas W z y f g St ⟨S.F, S.w, K, d, fun _ => ze, false⟩ K A) (unhide O2) (unhide P3 _ _ (unhide O2).st))
    clear O2 P3
    generalize S.is = isv at cis
    go_upto_region 6 with fail
    clear cis fis
    generalize w2.setCell _ _ = w3 at *
    go_wp2_with fail
    refine (unhide CF _ _ (unhide O3).st).mono ?_
    rintro e w4 ⟨rfl, h1, h2⟩
    have O4 := hide ((unhide O3).call h1 h2)
    clear h1 h2 CF O3
    go_wp2_with fail
    go_ret
    exact (unhide O4).done (YHas.stay M y f g _ _ _) _

end Go.Proofs.YtinhnnnehhlceaaGreat
