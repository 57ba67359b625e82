
/-
  What (*cell).lose and Crash do.
-/
import Derived.Test.YtjidekjeibdbgaaNLoad
namespace Go.Proofs.Ytjidekjeibdbgaa
open Go.ChangeShapes Go.WideShapes Go.ChangeAt Go.RowKit Go.Joins
set_option maxRecDepth 10000
set_option linter.unusedVariables false
set_option linter.unusedSimpArgs false

theorem yieldsIf_build2 {P : Program} {ops : Array Oper} {S : World → Prop} {op : Oper} {a : Act} (hw : Region.wanted op (yielded ops a.tmps) = true) (t : TypeId) (i j : Nat) (x y : Operand) (ho : op.op = .build t #[(i, x), (j, y)])
    (u v : Value) (hx : a.eval x = u) (hy : a.eval y = v) (cs : Array Value) (hb : P.built t [(i, u), (j, v)] = some cs) : YieldsIf P ops S op (.agg cs) a :=
  Or.inl ⟨hw, fun w _ => by
    have h := run_build (P := P) w t #[(i, u), (j, v)] cs hb
    unfold execOp
    simp [ho, hx, hy, Sem.run_bind, h]⟩

def Cel.fresh (s : Nat → Int) : Cel := ⟨Ln.of s, none, 0⟩
theorem built_cell (s : Nat → Int) : Try.prog.built 80 [(0, .agg (lnV s)), (1, .agg (lnV s))] = some (tab 25 (encAt (Cel.fresh s))) := by kernel_rfl
theorem csize : (Try.prog.info? 80).map (·.size) = some 25 := by kernel_rfl

theorem encAt_one (C : Cel) (j : Nat) : (encAt C j).oneCell' = true := by
  unfold encAt
  split
  · rfl
  · split
    · rfl
    · split <;> rfl
theorem tabC_one (C : Cel) : (tab 25 (encAt C)).all (·.oneCell') = true := by
  rw [Array.all_eq_true_iff_forall_mem]
  intro v hv
  simp only [tab, List.mem_toArray, List.mem_map] at hv
  obtain ⟨j, _, rfl⟩ := hv
  exact encAt_one C j

/-- 25 cells stored at once. -/
theorem Blk.putC {w : World} {c N : Nat} {T : TypeId} {f : Nat → Value} (h : Blk w c N T f) (o : Nat) (C : Cel) : Blk (w.setCells c o (tab 25 (encAt C)).toList) c N T (putC f o C) := by
  refine (Blk.sets (tab 25 (encAt C)).toList w f o h).ext fun i _ => ?_
  have hl : (tab 25 (encAt C)).toList.length = 25 := by simp [tab]
  rw [hl]
  unfold Go.Proofs.Ytjidekjeibdbgaa.putC
  by_cases hi : o ≤ i ∧ i < o + 25
  · rw [if_pos hi, if_pos hi]
    have : (tab 25 (encAt C)).toList[i - o]? = some (encAt C (i - o)) := by
      have := tab_get 25 (encAt C) (i - o) (by omega)
      simpa using this
    rw [List.getD_eq_getElem?_getD, this]; rfl
  · rw [if_neg hi, if_neg hi]

theorem Keeps.setCells {F : Nat → Prop} {a : World} {c : Nat} (hc : F c ∨ a.heap.size ≤ c) (vs : List Value) : ∀ (o : Nat) (w : World), Keeps F a w → Keeps F a (w.setCells c o vs) := by
  induction vs with
  | nil => intro o w h; exact h
  | cons v r ih =>
    intro o w h
    refine ih (o + 1) _ ?_
    rcases hc with hc | hc
    · exact Keeps.setCell (p := ⟨c, o, none⟩) h hc _
    · exact Keeps.setCell_new (p := ⟨c, o, none⟩) h hc _

theorem lose_any (s : Nat → Int) (c o N : Nat) (f : Nat → Value) (w : World) (ho : o + 25 ≤ N) (hb : Blk w c N 80 f) (hf : ∀ j, j < 8 → f (o + j) = .int .u64 (s j)) :
    Calls Try.prog 41 #[.pointer (some ⟨c, o, none⟩)] w fun e w' => e = .returned (.tuple #[]) ∧ Blk w' c N 80 (putC f o (Cel.fresh s)) ∧ Keeps (· = c) w w' := by
  have hR : w.rangeAt c o ((List.range 8).map fun j => .int .u64 (s j)) := hb.range o 8 (by omega) _ hf
  have hT : w.there c o 25 := hb.there o 25 ho
  have s8 : (Try.prog.info? 26).map (·.size) = some ((List.range 8).map fun j => Value.int .u64 (s j)).length := by rw [List.length_map, List.length_range]; exact lsize
  have s25 : (Try.prog.info? 80).map (·.size) = some (tab 25 (encAt (Cel.fresh s))).size := by rw [tab_size]; exact csize
  have HB := hide hb
  have HT := hide hT
  have HR := hide hR
  clear hb hT hR
  go_enter Try.func41, Try.ntmps41
  go_wp2
  refine wp_region_noPanic ?_
  refine wp_region_held_drew (S := fun w' => w'.rangeAt c o ((List.range 8).map fun j => .int .u64 (s j))) (by kernel_rfl) (unhide HR) (fun hHeld => ?_)
  refine take_at 0 2 (v := ?_) rfl rfl (by kernel_rfl) (by kernel_rfl) (by kernel_rfl) (Or.inl ⟨by rfl, ?_⟩) hHeld ?_
  rotate_left
  · intro w hSw; go_simp; with_reducible rfl
  simp only [Act.put, List.setIfInBounds_toArray, List.set_cons_zero, List.set_cons_succ]
  refine take_at 1 3 (v := ?_) rfl rfl (by kernel_rfl) (by kernel_rfl) (by kernel_rfl) (Or.inl ⟨by rfl, ?_⟩) hHeld ?_
  rotate_left
  · intro w hSw; go_simp; with_reducible rfl
  simp only [Act.put, List.setIfInBounds_toArray, List.set_cons_zero, List.set_cons_succ]
  refine take_at 2 4 (v := ?_) rfl rfl (by kernel_rfl) (by kernel_rfl) (by kernel_rfl) (Or.inl ⟨by rfl, ?_⟩) hHeld ?_
  rotate_left
  · intro w hSw; go_simp; with_reducible rfl
  simp only [Act.put, List.setIfInBounds_toArray, List.set_cons_zero, List.set_cons_succ]
  refine take_at 3 5 (v := ?_) rfl rfl (by kernel_rfl) (by kernel_rfl) (by kernel_rfl) (Or.inl ⟨by rfl, ?_⟩) hHeld ?_
  rotate_left
  · intro w hSw; go_simp; with_reducible rfl
  simp only [Act.put, List.setIfInBounds_toArray, List.set_cons_zero, List.set_cons_succ]
  refine take_at 4 6 rfl rfl (by kernel_rfl) (by kernel_rfl) (by kernel_rfl) (yieldsIf_load_mid (by rfl) _ _ rfl c o rfl _ _ (fun w h => h) Try.underlying26 rfl s8) hHeld ?_
  simp only [Act.put, List.setIfInBounds_toArray, List.set_cons_zero, List.set_cons_succ]
  refine take_at 5 7 (v := ?_) rfl rfl (by kernel_rfl) (by kernel_rfl) (by kernel_rfl) (Or.inl ⟨by rfl, ?_⟩) hHeld ?_
  rotate_left
  · intro w hSw; go_simp; with_reducible rfl
  simp only [Act.put, List.setIfInBounds_toArray, List.set_cons_zero, List.set_cons_succ]
  refine take_at 6 8 (v := ?_) rfl rfl (by kernel_rfl) (by kernel_rfl) (by kernel_rfl) (Or.inl ⟨by rfl, ?_⟩) hHeld ?_
  rotate_left
  · intro w hSw; go_simp; with_reducible rfl
  simp only [Act.put, List.setIfInBounds_toArray, List.set_cons_zero, List.set_cons_succ]
  refine take_at 7 9 (v := ?_) rfl rfl (by kernel_rfl) (by kernel_rfl) (by kernel_rfl) (Or.inl ⟨by rfl, ?_⟩) hHeld ?_
  rotate_left
  · intro w hSw; go_simp; with_reducible rfl
  simp only [Act.put, List.setIfInBounds_toArray, List.set_cons_zero, List.set_cons_succ]
  refine take_at 8 10 rfl rfl (by kernel_rfl) (by kernel_rfl) (by kernel_rfl) (yieldsIf_load_mid (by rfl) _ _ rfl c o rfl _ _ (fun w h => h) Try.underlying26 rfl s8) hHeld ?_
  simp only [Act.put, List.setIfInBounds_toArray, List.set_cons_zero, List.set_cons_succ]
  refine take_at 9 11 rfl rfl (by kernel_rfl) (by kernel_rfl) (by kernel_rfl) (yieldsIf_build2 (by rfl) 80 0 1 (.tmp 6) (.tmp 10) rfl (.agg (lnV s)) (.agg (lnV s)) rfl rfl _ (built_cell s)) hHeld ?_
  simp only [Act.put, List.setIfInBounds_toArray, List.set_cons_zero, List.set_cons_succ]
  refine take_at 10 12 (v := ?_) rfl rfl (by kernel_rfl) (by kernel_rfl) (by kernel_rfl) (Or.inl ⟨by rfl, ?_⟩) hHeld ?_
  rotate_left
  · intro w hSw; go_simp; with_reducible rfl
  simp only [Act.put, List.setIfInBounds_toArray, List.set_cons_zero, List.set_cons_succ]
  refine wpAnyH_ready (rs := [11]) (by kernel_rfl) (by simp) ?_
  refine AllReadyH.cons rfl (fun K hK => ?_) AllReadyH.nil
  refine (if_pos (by rfl)).mpr ?_
  refine wp_store_mid 80 _ _ rfl c o (tab 25 (encAt (Cel.fresh s))) rfl rfl (by rw [tab_size]; exact unhide HT) s25 (tabC_one _) ?_
  have HB2 : Hid (Blk (w.drew.setCells c o (tab 25 (encAt (Cel.fresh s))).toList) c N 80 (putC f o (Cel.fresh s))) := Blk.putC (w := w.drew) (unhide HB) o _
  refine hK.out _ _ ((unhide HB2).range o 8 (by omega) _ fun j hj => ?_) (fun hNew => ?_)
  · unfold putC; rw [if_pos (by omega), show o + j - o = j by omega]; simp [encAt, hj, Cel.fresh, Ln.of]
  clear hK K hHeld hNew
  refine wpAnyH_done (by kernel_rfl) ?_ _
  refine NoPanic.normal ?_
  go_wp2_with fail
  go_end0
  exact ⟨rfl, unhide HB2, Keeps.setCells (F := (· = c)) (Or.inl rfl) _ _ _ (Keeps.refl _ _).drew⟩

/-- The lines of which the first k have crashed. -/
def crashTo (A : Mm) (keep : List Int) (k : Nat) : Nat → Ln := fun i => if i < k then crashL keep A.l i else A.l i
theorem crashTo_zero (A : Mm) (keep : List Int) : crashTo A keep 0 = A.l := by funext i; simp [crashTo]
theorem crashTo_next (A : Mm) (keep : List Int) (k : Nat) : upd (crashTo A keep k) k (crashL keep A.l k) = crashTo A keep (k + 1) := by
  funext i
  unfold crashTo
  by_cases hi : i = k
  · subst hi; rw [upd_same, if_pos (by omega)]
  · rw [upd_other _ _ _ _ hi]
    by_cases h2 : i < k
    · rw [if_pos h2, if_pos (by omega)]
    · rw [if_neg h2, if_neg (by omega)]
theorem crashL_sure (keep : List Int) (l : Nat → Ln) (k : Nat) (hok : (l k).ok) (h0 : (l k).t.length = 0) : crashL keep l k = l k := by
  have ht : (l k).t = [] := List.length_eq_zero_iff.1 h0
  have hf : (l k).f = fun _ => 0 := by funext j; have := hok.2.2 j; omega
  unfold crashL
  cases h : l k with
  | mk s t f =>
    rw [h] at ht hf
    simp only at ht hf
    subst ht hf
    simp [Ln.settle, Ln.lose, runS]

theorem crash_any {w : World} {F : Nat → Prop} {b c : Nat} {A : Mm} {cs : Nat → Cel} (h : Rep w F b A c cs) (hok : A.ok 1000) (a : Option Addr) (keep : List Int) (cap : Nat) (hr : ∀ z ∈ keep, In64 z) (hl : keep.length ≤ 9223372036854775807) (hi : IntsAt w a keep) (hap : ∀ x, a = some x → keep ≠ [] → ¬ F x.block) :
    Calls Try.prog 20 #[.pointer (some ⟨b, 0, none⟩), .slice a keep.length cap] w (Went F w b c (A.crash keep) (.tuple #[])) := by
  obtain ⟨K0, c0⟩ := h.c0
  have H := hide h
  have HI := hide hi
  have HOK := hide hok
  have hn := hok.2.1
  clear h hi hok
  go_enter Try.func20, Try.ntmps20
  go_wp2
  go_loopw [4, 12] (fun u i wr => ∃ k : Nat, k ≤ A.n ∧ i = .int .i64 k ∧ u = .int .i64 (rank A.l k : Nat) ∧ ∃ cr, Rep wr F b ⟨A.n, crashTo A keep k, A.on, A.fuse, A.steps⟩ c cr ∧ Keeps F w wr) (fun _ i _ => A.n - (intOf i).toNat)
  case atStart => exact ⟨0, by omega, rfl, rfl, cs, by rw [crashTo_zero]; exact unhide H, Keeps.refl _ _⟩
  case round =>
    clear c0
    obtain ⟨k, hk, rfl, rfl, cr, hr', hkp⟩ := hrel
    obtain ⟨K0, c0⟩ := hr'.c0
    simp only at c0
    have HR := hide hr'
    have HK := hide hkp
    have hrk := rank_le A.l k
    clear hr' hkp
    by_cases hlt : k < A.n
    · have cc := (unhide HR).lenc k hlt
      simp only [show crashTo A keep k k = A.l k by simp [crashTo]] at cc
      have hk' : (k : Int) < (A.n : Int) := by omega
      have hlen := (unhide HOK).2.2.2.1 k
      by_cases h0 : (A.l k).t.length = 0
      · rw [h0] at cc
        have HN : Hid (crashTo A keep k = crashTo A keep (k + 1)) := by
          show _ = _
          rw [← crashTo_next, crashL_sure keep A.l k ((unhide HOK).2.2.1 k) h0]
          funext i
          by_cases hi : i = k
          · subst hi; rw [upd_same]; simp [crashTo]
          · rw [upd_other _ _ _ _ hi]
        have HRK : Hid (rank A.l (k + 1) = rank A.l k) := by show _ = _; simp [rank, h0]
        have H0 := hide h0
        clear h0
        go_wp2
        go_roundw
        case rel => exact ⟨k + 1, by omega, by go_num, by rw [unhide HRK], cr, by rw [← unhide HN]; exact unhide HR, unhide HK⟩
        case measure => simp [intOf]; omega
      · obtain ⟨m, hm⟩ : ∃ m, m = (A.l k).t.length := ⟨_, rfl⟩
        rw [← hm] at cc h0 hlen
        have HM := hide hm
        clear hm
        have hne : ((m : Int) == 0) = false := beq_eq_false_iff_ne.2 (by omega)
        have hik : IntsAt wr a keep := by
          rcases unhide HI with e | ⟨x, off, e, hx⟩
          · exact Or.inl e
          · exact Or.inr ⟨x, off, e, fun i hi => (unhide HK).cellOf (hx i hi) (hap _ e (fun h => by rw [h] at hi; simp at hi))⟩
        have CK := hide (kept_any a keep cap hr hl wr hik (rank A.l k) m (by omega))
        have HRK : Hid (rank A.l (k + 1) = rank A.l k + 1) := by
          show rank A.l k + (if (A.l k).t.length = 0 then 0 else 1) = _
          rw [if_neg (by rw [← unhide HM]; exact h0)]
        obtain ⟨kn, hkn⟩ : ∃ kn, kn = keptN keep (rank A.l k) m := ⟨_, rfl⟩
        have hkm : kn ≤ m := by rw [hkn]; exact keptN_le _ _ _
        have HL : Hid (crashL keep A.l k = ((A.l k).settle kn).lose) := by show _ = _; rw [hkn, unhide HM]; rfl
        rw [← hkn] at CK
        clear hik hkn
        have hlk : (cr k).l = A.l k := by rw [(unhide HR).ln k]; simp [crashTo]
        have HLK := hide hlk
        have CS := hide (settle_any (cr k) (by rw [hlk]; exact (unhide HOK).2.2.1 k) kn (by rw [hlk, ← unhide HM]; exact hkm) (by rw [hlk, ← unhide HM]; omega) c (k * 25) (A.n * 25) (encF cr) wr (by omega) (unhide HR).bl (fun j hj => encF_at _ _ _ hj) ((unhide HR).row k hlt) (fun e => ((unhide HR).ap k hlt c e).2.1 rfl))
        clear hlk
        go_wp2_with fail
        refine (unhide CK).mono ?_
        rintro e w1 ⟨rfl, rfl⟩
        go_wp2_with fail
        refine (unhide CS).mono ?_
        rintro e w1 ⟨rfl, hb1, hk1⟩
        have HR1 : Hid (Rep w1 F b ⟨A.n, upd (crashTo A keep k) k ((A.l k).settle kn), A.on, A.fuse, A.steps⟩ c (upd cr k ((cr k).settle kn))) := by
          have := (unhide HR).settled k hlt kn (by rw [show (Mm.mk A.n (crashTo A keep k) A.on A.fuse A.steps).l k = A.l k by simp [crashTo], ← unhide HM]; exact hkm) hk1 hb1
          simp only [show crashTo A keep k k = A.l k by simp [crashTo]] at this
          exact this
        have HK1 : Hid (Keeps F w w1) := (unhide HK).trans' (hk1.mono fun x _ e => by rw [e]; exact (unhide HR).fc)
        have CL := hide (lose_any ((A.l k).settle kn).s c (k * 25) (A.n * 25) (encF (upd cr k ((cr k).settle kn))) w1 (by omega) (unhide HR1).bl (fun j hj => by
          rw [encF_at _ _ _ (by omega), upd_same]; simp [encAt, hj, Cel.settle, unhide HLK]))
        clear hb1 hk1 CK CS HR HK c0 cc
        go_wp2_with fail
        refine (unhide CL).mono ?_
        rintro e w2 ⟨rfl, hb2, hk2⟩
        have HR2 : Hid (∃ cr', Rep w2 F b ⟨A.n, crashTo A keep (k + 1), A.on, A.fuse, A.steps⟩ c cr') := by
          have := (unhide HR1).line_same k hlt (Cel.fresh ((A.l k).settle kn).s) hk2 hb2 (Or.inl ⟨rfl, rfl, rfl⟩) (fun g hg => by simp [Cel.fresh, Cel.blk] at hg)
          refine ⟨upd (upd cr k ((cr k).settle kn)) k (Cel.fresh ((A.l k).settle kn).s), ?_⟩
          · rw [← crashTo_next, unhide HL]
            have e : upd (upd (crashTo A keep k) k ((A.l k).settle kn)) k (Cel.fresh ((A.l k).settle kn).s).l = upd (crashTo A keep k) k ((A.l k).settle kn).lose := by
              funext i
              by_cases hi : i = k
              · subst hi; rw [upd_same, upd_same]; rfl
              · rw [upd_other _ _ _ _ hi, upd_other _ _ _ _ hi, upd_other _ _ _ _ hi]
            rw [← e]; exact this
        have HK2 : Hid (Keeps F w w2) := (unhide HK1).trans' (hk2.mono fun x _ e => by rw [e]; exact (unhide HR1).fc)
        clear hb2 hk2 HR1 HK1 CL
        go_wp2_with fail
        go_roundw
        case rel =>
          obtain ⟨cr', hr'⟩ := unhide HR2
          exact ⟨k + 1, by omega, by go_num, by rw [unhide HRK]; go_num, cr', hr', unhide HK2⟩
        case measure => simp [intOf]; omega
    · obtain rfl : k = A.n := by omega
      have f1 := (unhide HR).fr 1
      have f2 := (unhide HR).fr 2
      have c1 := (unhide HR).c1
      have c2 := (unhide HR).c2
      simp only at c1 c2
      go_wp2_with fail
      go_end0
      obtain ⟨cr', hr'⟩ := (unhide HR).lines (A' := ⟨A.n, crashL keep A.l, A.on, A.fuse, A.steps⟩) rfl rfl rfl rfl (fun i hi => by simp [crashTo, show i < A.n from hi])
      refine ⟨rfl, F, cr', ?_, Keeps.setCell (F := F) (p := ⟨b, 2, none⟩) (Keeps.setCell (F := F) (p := ⟨b, 1, none⟩) (unhide HK) (unhide HR).fb _) (unhide HR).fb _, Grew.refl _ _⟩
      exact hr'.head (Keeps.setCell (F := (· = b)) (p := ⟨b, 2, none⟩) (Keeps.setCell (F := (· = b)) (p := ⟨b, 1, none⟩) (Keeps.refl _ _) rfl _) rfl _) true (-1) A.steps (head_set (head_set hr'.hd 1 (.bool true) ⟨A.n, crashL keep A.l, true, A.fuse, A.steps⟩ fun _ => rfl) 2 (.int .i64 (-1)) _ fun _ => rfl)

end Go.Proofs.Ytjidekjeibdbgaa
