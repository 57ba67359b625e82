
/-
  unmark: nothing is marked, and what nothing names is free; Commit, Abort.
-/
import Derived.Test.YtjmgmbigbkllgaaOTells
import Derived.Test.YtjmgmbigbkllgaaPkNvm
namespace Go.Proofs.Ytjmgmbigbkllgaa
open Go.ChangeShapes Go.WideShapes Go.ChangeAt Go.RowKit Go.Joins
set_option maxRecDepth 10000
set_option linter.unusedVariables false
set_option linter.unusedSimpArgs false

/-! ### the row of what is named -/
def nmR (nm : Nat → Bool) : Array Value := tab 1024 fun i => .bool (nm i)
theorem nmR_size (nm : Nat → Bool) : (nmR nm).size = 1024 := tab_size _ _
theorem nmR_get (nm : Nat → Bool) (i : Nat) (h : i < 1024) : (nmR nm)[i]? = some (.bool (nm i)) := tab_get _ _ _ h
theorem zero_nm : (Try.prog.info? 124).map (·.zero) = some (some (.agg (nmR fun _ => false))) := by kernel_rfl
theorem s1024 (nm : Nat → Bool) : (Try.prog.info? 124).map (·.size) = some (nmR nm).size := by rw [nmR_size]; kernel_rfl
def nmP (nm : Nat → Bool) (z : Int) : Nat → Bool := fun i => nm i || z == (i : Int)
theorem nmR_put (nm : Nat → Bool) (i : Nat) : (nmR nm).setIfInBounds i (.bool true) = nmR (nmP nm (i : Int)) := by
  unfold nmR
  rw [tab_set]
  refine tab_ext fun j _ => ?_
  unfold nmP
  by_cases e : j = i
  · subst e; rw [upd_same]; simp
  · rw [upd_other _ _ _ _ e]
    have : ((i : Int) == (j : Int)) = false := by simp; omega
    rw [this, Bool.or_false]
theorem nmR_out (nm : Nat → Bool) (z : Int) (h : ¬ (0 ≤ z ∧ z < 1024)) : nmR nm = nmR (nmP nm z) := by
  unfold nmR
  refine tab_ext fun j hj => ?_
  unfold nmP
  have : (z == (j : Int)) = false := by simp; omega
  rw [this, Bool.or_false]

theorem name_obj {w : World} {g : Nat} {nm : Nat → Bool} (h : w.heap[g]? = some (.cells (nmR nm) 124 (0, 0))) (z : Int) :
    Calls Try.prog 62 (#[.int .i64 z] ++ #[.pointer (some ⟨g, 0, none⟩)]) w fun e w' => e = .returned (.tuple #[]) ∧ Keeps (· = g) w w' ∧ w'.heap[g]? = some (.cells (nmR (nmP nm z)) 124 (0, 0)) := by
  by_cases hz : 0 ≤ z ∧ z < 1024
  · obtain ⟨i, rfl⟩ : ∃ i : Nat, z = (i : Int) := ⟨z.toNat, by omega⟩
    have hi : i < 1024 := by omega
    have hi0 : (0 : Int) ≤ (i : Int) := by omega
    have hi1 : (i : Int) < 1024 := by omega
    have cg : w.cell? ⟨g, i, none⟩ = some (.bool (nm i)) := by rw [cell_of_block h]; exact nmR_get _ _ hi
    have fg : w.frozen? ⟨g, i, none⟩ = false := unfrozen_of_block h _
    have K := hide (Keeps.setCell (F := (· = g)) (p := ⟨g, i, none⟩) (Keeps.refl _ w) rfl (.bool true))
    have B : Hid ((w.setCell ⟨g, i, none⟩ (.bool true)).heap[g]? = some (.cells (nmR (nmP nm (i : Int))) 124 (0, 0))) := by
      show _ = _
      rw [block_setCell h, nmR_put]
    clear h hz
    go_enter Try.func62, Try.ntmps62
    go_wp2_with fail
    go_end0
    exact ⟨rfl, unhide K, unhide B⟩
  · have K := hide (Keeps.refl (· = g) w)
    have B : Hid (w.heap[g]? = some (.cells (nmR (nmP nm z)) 124 (0, 0))) := by
      show _ = _
      rw [h, nmR_out nm z hz]
    have hz' : z < 0 ∨ 1024 ≤ z := by omega
    clear h hz
    rcases hz' with hz | hz
    · go_enter Try.func62, Try.ntmps62
      go_wp2_with fail
      go_end0
      exact ⟨rfl, unhide K, unhide B⟩
    · have h0 : 0 ≤ z := by omega
      go_enter Try.func62, Try.ntmps62
      go_wp2_with fail
      go_end0
      exact ⟨rfl, unhide K, unhide B⟩

/-! ### what is named so far -/
def nmD (d : Nat → Int) (j : Nat) : Nat → Bool := fun i => (List.range j).any fun q => d q == (i : Int)
theorem nmD_next (d : Nat → Int) (j : Nat) : nmD d (j + 1) = nmP (nmD d j) (d j) := by
  funext i; unfold nmD nmP; rw [List.range_succ, List.any_append]; simp
theorem nmD_all (d : Nat → Int) (i : Nat) : nmD d 8 i = inD d (i : Int) := rfl
def nmT (nm : Nat → Bool) (f : Nat → En) (j : Nat) : Nat → Bool := fun i => nm i || hasTo f (i : Int) j
theorem nmT_zero (nm : Nat → Bool) (f : Nat → En) : nmT nm f 0 = nm := by funext i; unfold nmT; rw [hasTo_zero, Bool.or_false]
theorem nmT_in (nm : Nat → Bool) (f : Nat → En) (j : Nat) (h : (f j).k ≠ 0) : nmT nm f (j + 1) = nmP (nmT nm f j) (f j).l := by
  funext i; unfold nmT nmP; rw [hasTo_next, ← Bool.or_assoc]
  congr 1
  unfold atB
  rw [Bool.eq_iff_iff, decide_eq_true_iff, beq_iff_eq]
  exact ⟨fun q => q.2, fun q => ⟨h, q⟩⟩
theorem nmT_out (nm : Nat → Bool) (f : Nat → En) (j : Nat) (h : (f j).k = 0) : nmT nm f (j + 1) = nmT nm f j := by
  funext i; unfold nmT; rw [hasTo_next, atB_no (fun q => q.1 h), Bool.or_false]

/-! ### two tables by value -/
def ttV (f g : Nat → En) : Array Value := tabV f ++ tabV g
theorem built_tt (f g : Nat → En) : Try.prog.built 126 [(0, .agg (tabV f)), (1, .agg (tabV g))] = some (ttV f g) := by kernel_rfl

theorem ext0 {α : Type} (a b : Array α) (n : Nat) (h : a.size = n) : (a ++ b).extract 0 n = a := by
  subst h; simp
theorem ext1 {α : Type} (a b : Array α) (n m : Nat) (h : a.size = n) (h2 : b.size + n = m) : (a ++ b).extract n m = b := by
  subst h; subst h2
  apply Array.ext_getElem?
  intro i
  rw [Array.getElem?_extract, Array.getElem?_append]
  by_cases hi : i < b.size
  · rw [if_pos (by simp; omega), if_neg (by omega)]; congr 1; omega
  · rw [if_neg (by simp; omega), Array.getElem?_eq_none (by omega)]
theorem tt_0 (f g : Nat → En) : (ttV f g).extract 0 147 = tabV f := ext0 _ _ _ (tabV_size f)
theorem tt_1 (f g : Nat → En) : (ttV f g).extract 147 (147 + 147) = tabV g := ext1 _ _ _ _ (tabV_size f) (by rw [tabV_size])
theorem run_index_tt (W : World) (f g : Nat → En) (i : Nat) (h : i < 2) :
    Sem.run Try.prog (Instr.index 126 (.agg (ttV f g)) (.int .i64 (i : Int))) W = .ok (.agg (tabV (if i = 0 then f else g))) W := by
  have h' : (0 : Int) ≤ (i : Int) ∧ (i : Int) < ((2 : Nat) : Int) := by omega
  have hagg : (isAgg 59).run Try.prog W = .ok true W := by
    unfold isAgg
    rw [Sem.run_bind, run_underlying Try.underlying59 W]
    simp
  simp only [Instr.index, asIntOf, Sem.run_bind, Sem.run_pure, Result.andThen_ok, run_underlying Try.underlying126 W, if_pos h', run_sizeOf W 59 147 size147, Int.toNat_natCast, part, hagg, if_true]
  rcases (show i = 0 ∨ i = 1 by omega) with rfl | rfl
  · rw [if_pos rfl, Nat.zero_mul, Nat.zero_add, tt_0]
  · rw [if_neg (by decide), Nat.one_mul, tt_1]
theorem run_index_dir (W : World) (d : Nat → Int) (i : Nat) (h8 : i < 8) :
    Sem.run Try.prog (Instr.index 60 (.agg (dirV d)) (.int .i64 (i : Int))) W = .ok (.int .i64 (d i)) W := by
  have h8' : (0 : Int) ≤ (i : Int) ∧ (i : Int) < 8 := by omega
  have h : (dirV d)[i]? = some (.int .i64 (d i)) := by
    have := congrArg (fun l => l[i]?) (dirV_list d)
    simp only [Array.getElem?_toList] at this
    rw [this, List.getElem?_map, List.getElem?_range h8]; rfl
  simp [Instr.index, run_underlying Try.underlying60, asIntOf, h8, go_sem, part, h]
theorem run_index_nm (W : World) (nm : Nat → Bool) (i : Nat) (h8 : i < 1024) :
    Sem.run Try.prog (Instr.index 124 (.agg (nmR nm)) (.int .i64 (i : Int))) W = .ok (.bool (nm i)) W := by
  have h8' : (0 : Int) ≤ (i : Int) ∧ (i : Int) < 1024 := by omega
  have h := nmR_get nm i h8
  generalize nmR nm = R at *
  simp [Instr.index, run_underlying Try.underlying124, asIntOf, h8, go_sem, part, h]

section
variable {W : World} {St : World → (Nat → Prop) → Prop} {w0 w w' : World} {G : Nat → Prop} {L : List (Nat × Obj)}
/-- The block that was laid last turns. -/
theorem Held.turnHd (S : Stay W St) {g : Nat} {o : Obj} (o' : Obj) (h : Held W St w0 w G ((g, o) :: L)) (hne : ∀ p ∈ L, p.1 ≠ g) (hk : Keeps (· = g) w w') (ho : w'.heap[g]? = some o') : Held W St w0 w' G ((g, o') :: L) :=
  (h.turnOwn S g o o' List.mem_cons_self hk ho).less S fun p hp => by
    rcases List.mem_cons.1 hp with rfl | hp
    · exact List.mem_cons_self
    · exact List.mem_cons_of_mem _ (List.mem_filter.2 ⟨List.mem_cons_of_mem _ hp, by simpa using hne p hp⟩)
end

/-! ### unmark -/
def Sto.unm (S : Sto) : Sto := ⟨S.F, S.w, S.b, S.d, fun _ => ze, false⟩
def nmC (S : Sto) : Nat → Nat → Bool
  | 0 => nmD S.d 8
  | 1 => nmT (nmD S.d 8) S.b 49
  | _ => nmT (nmT (nmD S.d 8) S.b 49) S.w 49
theorem nmC_next (S : Sto) (c : Nat) (h : c < 2) : nmC S (c + 1) = nmT (nmC S c) (if c = 0 then S.b else S.w) 49 := by
  rcases (show c = 0 ∨ c = 1 by omega) with rfl | rfl <;> rfl
def Sto.swept (S : Sto) (nm : Nat → Bool) (j : Nat) : Sto := S.unm.withF (S.F.freeTo nm j)
theorem tabV_ze : tabV (fun _ => ze) = iv .i64 (zrow 49) := rfl
theorem build_tab : Try.prog.built 59 [] = some (tabV fun _ => ze) := by kernel_rfl

set_option maxHeartbeats 4000000 in
theorem unmark_any {W w : World} {m b : Nat} {St : Mm → World → (Nat → Prop) → Prop} {S : Sto} {A : Mm} {G : Nat → Prop} (M : MemL W m St) (h : SHas W m b St S A w G) (hS : S.ok) :
    Calls Try.prog 51 #[.pointer (some ⟨b, 0, none⟩)] w (Done (SHas W m b St S.unmarkS A) w G (.tuple #[])) := by
  have R1 : SRep m ⟨S.F, S.w, S.b, S.d, fun _ => ze, S.is⟩ (w.setCells b 1329 (tabV fun _ => ze).toList) b := h.rep.putK _
  have R2 := R1.putIs false
  have KP := ((keeps_cells b (tabV fun _ => ze).toList w 1329)).trans' (Keeps.setCell (F := (· = b)) (p := ⟨b, 1476, none⟩) (Keeps.refl _ _) rfl (.bool false))
  have HT := h.turned M (S' := S.unm) R2 KP
  have TU := hide (SHas.stay M b S.unm A)
  have OU := hide (Held.turn (Held.start (SHas.stay M b S A) h) (St' := SHas W m b St S.unm A) (w' := (w.setCells b 1329 (tabV fun _ => ze).toList).setCell ⟨b, 1476, none⟩ (.bool false)) ⟨(SHas.stay M b S.unm A).ls _ _ _ HT.1 (by simp), fun k hk => HT.2 k (by simpa using hk)⟩)
  have TH := Blk.there h.rep 1329 147 (by decide)
  have cs : (w.setCells b 1329 (tabV fun _ => ze).toList).cell? ⟨b, 1476, none⟩ = some (.bool S.is) := R1.cis
  have fs : (w.setCells b 1329 (tabV fun _ => ze).toList).frozen? ⟨b, 1476, none⟩ = false := Blk.free R1 _
  have s147 := s147_tab fun _ => ze
  have hsz : (tabV fun _ => ze).size = 147 := tabV_size _
  rw [← hsz] at TH
  have HTH := hide TH
  have Z1 := hide (tabV_one fun _ => ze)
  have BT := hide build_tab
  clear h R1 R2 KP HT TH hsz
  generalize hZT : (tabV fun _ => ze) = ZT at *
  clear hZT
  go_enter Try.func51, Try.ntmps51
  go_upto_region 1 with (first | (with_reducible refine wpList_build0 (by with_unfolding_all rfl) 59 (by with_unfolding_all rfl) ZT (unhide BT) ?_) | (with_reducible refine wpList_store_mid (by with_unfolding_all rfl) 59 _ _ (by with_unfolding_all rfl) b 1329 ZT (by with_unfolding_all rfl) (by with_unfolding_all rfl) (unhide HTH) s147 (unhide Z1) ?_))
  generalize (w.setCells b 1329 ZT.toList).setCell ⟨b, 1476, none⟩ (.bool false) = w1 at *
  clear cs fs HTH s147 Z1 BT
  have ON := hide ((unhide OU).alloc (unhide TU) (.cells (nmR (nmD S.d 0)) 124))
  obtain ⟨g, hg⟩ : ∃ g, g = w1.heap.size := ⟨_, rfl⟩
  have e0 : (nmR fun _ => false) = nmR (nmD S.d 0) := rfl
  have Z0 := zero_nm
  rw [e0] at Z0
  have HZ0 := hide Z0
  have s8 := s8_dir S.d
  have HXD : Hid (∀ (U : World) (j : Nat), j < 8 → Sem.run Try.prog (Instr.index 60 (.agg (dirV S.d)) (.int .i64 (j : Int))) U = .ok (.int .i64 (S.d j)) U) := fun U j hj => run_index_dir U S.d j hj
  clear OU Z0 e0
  rw [← hg] at ON
  obtain ⟨RN, hRN⟩ : ∃ RN, RN = nmR (nmD S.d 0) := ⟨_, rfl⟩
  rw [← hRN] at HZ0
  have HRN := hide hRN
  rw [← hRN] at ON
  clear hRN
  go_upto_region 2 with (with_reducible refine wpList_allocZ (by with_unfolding_all rfl) 124 (by with_unfolding_all rfl) RN (unhide HZ0) ?_)
  rw [← hg]
  generalize w1.alloc (.cells RN 124) = w2 at *
  clear hg HZ0
  rw [unhide HRN] at ON
  clear HRN
  have RD : Hid (w2.rangeAt b 1321 (dirV S.d).toList) := (unhide ON).st.rep.rd
  obtain ⟨DV, hDV⟩ : ∃ DV, DV = dirV S.d := ⟨_, rfl⟩
  rw [← hDV] at RD s8 HXD
  clear hDV
  have s8' : (Try.prog.info? 60).map (·.size) = some DV.toList.length := by rw [Array.length_toList]; exact s8
  have NE : Hid (∀ p ∈ ([] : List (Nat × Obj)), p.1 ≠ g) := by intro p hp; cases hp
  go_wp2_with (with_reducible refine wpList_load_mid (by with_unfolding_all rfl) 60 _ (by with_unfolding_all rfl) b 1321 (by with_unfolding_all rfl) DV.toList _ (unhide RD) Try.underlying60 (by with_unfolding_all rfl) s8' ?_)
  go_loopw [5, 24] (fun _ c wr => ∃ j : Nat, j ≤ 8 ∧ c = .int .i64 j ∧ Held W (SHas W m b St S.unm A) w wr G [(g, .cells (nmR (nmD S.d j)) 124)]) (fun _ c _ => 8 - (intOf c).toNat)
  case atStart => exact ⟨0, by omega, rfl, unhide ON⟩
  case round =>
    clear ON RD
    obtain ⟨j, hj, rfl, hh⟩ := hrel
    have HH := hide hh
    clear hh
    by_cases hlt : j < 8
    · have hix := fun U => unhide HXD U j hlt
      have CN := hide (name_obj ((unhide HH).at g (.cells (nmR (nmD S.d j)) 124) (by simp)) (S.d j))
      rw [← nmD_next] at CN
      generalize S.d j = z at *
      go_wp2_with fail
      refine (unhide CN).mono ?_
      rintro e wn ⟨rfl, hk1, hk2⟩
      have H2 := hide ((unhide HH).turnHd (unhide TU) (.cells (nmR (nmD S.d (j + 1))) 124) (unhide NE) hk1 hk2)
      clear hk1 hk2 HH CN hix
      go_wp2_with fail
      go_roundw
      case rel => exact ⟨j + 1, by omega, by go_num, unhide H2⟩
      case measure => simp [intOf]; omega
    · have e8 : j = 8 := by omega
      clear HXD s8 s8'
      go_upto_region 8 with fail
      rw [e8] at HH
      clear hlt hj e8
      generalize (j : Int) = last at *
      have RB : Hid (wr.rangeAt b 1174 (tabV S.b).toList) := (unhide HH).st.rep.rb
      have RW : Hid (wr.rangeAt b 1027 (tabV S.w).toList) := (unhide HH).st.rep.rw
      have s147b : (Try.prog.info? 59).map (·.size) = some (tabV S.b).toList.length := by rw [Array.length_toList]; exact s147_tab _
      have s147w : (Try.prog.info? 59).map (·.size) = some (tabV S.w).toList.length := by rw [Array.length_toList]; exact s147_tab _
      have BT := hide (built_tt S.b S.w)
      have HXT := hide (fun (U : World) (c : Nat) (hc : c < 2) => run_index_tt U S.b S.w c hc)
      refine wp_region_noPanic ?_
      refine wp_region_held_drew (S := fun w' => w'.rangeAt b 1174 (tabV S.b).toList ∧ w'.rangeAt b 1027 (tabV S.w).toList) (by kernel_rfl) ⟨unhide RB, unhide RW⟩ (fun hHeld => ?_)
      refine take_at 0 31 (v := ?_) rfl rfl (by kernel_rfl) (by kernel_rfl) (by kernel_rfl) (Or.inl ⟨by rfl, ?_⟩) hHeld ?_
      rotate_left
      · intro w hSw; go_simp; with_reducible rfl
      simp only [Act.put, List.setIfInBounds_toArray, List.set_cons_zero, List.set_cons_succ]
      refine take_at 1 32 (v := ?_) rfl rfl (by kernel_rfl) (by kernel_rfl) (by kernel_rfl) (Or.inl ⟨by rfl, ?_⟩) hHeld ?_
      rotate_left
      · intro w hSw; go_simp; with_reducible rfl
      simp only [Act.put, List.setIfInBounds_toArray, List.set_cons_zero, List.set_cons_succ]
      refine take_at 2 33 (v := ?_) rfl rfl (by kernel_rfl) (by kernel_rfl) (by kernel_rfl) (Or.inl ⟨by rfl, ?_⟩) hHeld ?_
      rotate_left
      · intro w hSw; go_simp; with_reducible rfl
      simp only [Act.put, List.setIfInBounds_toArray, List.set_cons_zero, List.set_cons_succ]
      refine take_at 3 34 rfl rfl (by kernel_rfl) (by kernel_rfl) (by kernel_rfl) (yieldsIf_load_mid (by rfl) 59 _ rfl b 1174 rfl (tabV S.b).toList _ (fun w' h => h.1) Try.underlying59 rfl s147b) hHeld ?_
      simp only [Act.put, List.setIfInBounds_toArray, List.set_cons_zero, List.set_cons_succ]
      refine take_at 4 35 (v := ?_) rfl rfl (by kernel_rfl) (by kernel_rfl) (by kernel_rfl) (Or.inl ⟨by rfl, ?_⟩) hHeld ?_
      rotate_left
      · intro w hSw; go_simp; with_reducible rfl
      simp only [Act.put, List.setIfInBounds_toArray, List.set_cons_zero, List.set_cons_succ]
      refine take_at 5 36 (v := ?_) rfl rfl (by kernel_rfl) (by kernel_rfl) (by kernel_rfl) (Or.inl ⟨by rfl, ?_⟩) hHeld ?_
      rotate_left
      · intro w hSw; go_simp; with_reducible rfl
      simp only [Act.put, List.setIfInBounds_toArray, List.set_cons_zero, List.set_cons_succ]
      refine take_at 6 37 (v := ?_) rfl rfl (by kernel_rfl) (by kernel_rfl) (by kernel_rfl) (Or.inl ⟨by rfl, ?_⟩) hHeld ?_
      rotate_left
      · intro w hSw; go_simp; with_reducible rfl
      simp only [Act.put, List.setIfInBounds_toArray, List.set_cons_zero, List.set_cons_succ]
      refine take_at 7 38 rfl rfl (by kernel_rfl) (by kernel_rfl) (by kernel_rfl) (yieldsIf_load_mid (by rfl) 59 _ rfl b 1027 rfl (tabV S.w).toList _ (fun w' h => h.2) Try.underlying59 rfl s147w) hHeld ?_
      simp only [Act.put, List.setIfInBounds_toArray, List.set_cons_zero, List.set_cons_succ]
      refine take_at 8 39 rfl rfl (by kernel_rfl) (by kernel_rfl) (by kernel_rfl) (yieldsIf_build2 (by rfl) 126 0 1 (.tmp 34) (.tmp 38) rfl (.agg (tabV S.b)) (.agg (tabV S.w)) rfl rfl _ (unhide BT)) hHeld ?_
      simp only [Act.put, List.setIfInBounds_toArray, List.set_cons_zero, List.set_cons_succ]
      refine take_at 9 40 (v := ?_) rfl rfl (by kernel_rfl) (by kernel_rfl) (by kernel_rfl) (Or.inl ⟨by rfl, ?_⟩) hHeld ?_
      rotate_left
      · intro w hSw; go_simp; with_reducible rfl
      simp only [Act.put, List.setIfInBounds_toArray, List.set_cons_zero, List.set_cons_succ]
      refine wpAnyH_done (by kernel_rfl) ?_ _
      refine NoPanic.normal ?_
      have HC : Hid (Held W (SHas W m b St S.unm A) w wr.drew G [(g, .cells (nmR (nmC S 0)) 124)]) := (unhide HH).drew (unhide TU)
      have HD : Hid (∀ (U : World) (c : Nat), c < 2 → Sem.run Try.prog (Instr.index 126 (.agg (ttV S.b S.w)) (.int .i64 (c : Int))) U = .ok (.agg (tabV (if c = 0 then S.b else S.w))) U) := fun U c hc => unhide HXT U c hc
      clear hHeld RB RW s147b s147w BT HH HXT
      generalize wr.drew = wq at *
      have ZT1 := hide zero_tab
      generalize hZU : (tabV fun _ => ze) = ZU at *
      have szU : Hid (∀ f, ZU.size = (tabV f).size) := fun f => by rw [← hZU, tabV_size, tabV_size]
      clear hZU
      generalize ttV S.b S.w = TT at *
      generalize (tabV S.b).toList.toArray = X1 at *
      generalize (tabV S.w).toList.toArray = X2 at *
      go_wp2_with fail
      go_loopw [7, 9, 40] (fun _ _ c wr => ∃ j : Nat, j ≤ 2 ∧ c = .int .i64 j ∧ Held W (SHas W m b St S.unm A) w wr G [(g, .cells (nmR (nmC S j)) 124)]) (fun _ _ c _ => 2 - (intOf c).toNat)
      case atStart => exact ⟨0, by omega, rfl, unhide HC⟩
      case round =>
        clear HC
        obtain ⟨c, hc, rfl, hh⟩ := hrel
        have HH := hide hh
        clear hh
        by_cases hlt2 : c < 2
        · have hixt := fun U => unhide HD U c hlt2
          have HN := hide (nmC_next S c hlt2)
          generalize (if c = 0 then S.b else S.w) = f at *
          have HXE : Hid (∀ (U : World) (j : Nat), j < 49 → Sem.run Try.prog (Instr.index 59 (.agg (tabV f)) (.int .i64 (j : Int))) U = .ok (.agg (ev (f j))) U) := fun U j hj => by
            rw [← rowE_at 49 f j hj]; exact run_index_en _ 49 Try.underlying59 U _ (rowE_len _ _) .i64 j hj
          have O1 := hide (((unhide HH).alloc (unhide TU) (.cells (tabV f) 59)).less (unhide TU) (L' := [(g, .cells (nmR (nmC S c)) 124)]) (by simp))
          have KN := hide (heap_new wr (.cells (tabV f) 59))
          have s147 := s147_tab f
          have XF := hide (tabV_one f)
          have szf := hide (unhide szU f)
          generalize tabV f = TF at *
          go_wp2_with (first | (with_reducible refine wpList_allocZ (by with_unfolding_all rfl) 59 (by with_unfolding_all rfl) ZU (unhide ZT1) ?_) | (with_reducible refine wpList_store_row (by with_unfolding_all rfl) 59 _ _ (by with_unfolding_all rfl) wr.heap.size TF (by with_unfolding_all rfl) (by with_unfolding_all rfl) 59 ZU (heap_new wr _) s147 (unhide szf) (unhide XF) ?_; rw [setRow_alloc]) | (with_reducible refine wpList_load_row (by with_unfolding_all rfl) 59 _ (by with_unfolding_all rfl) wr.heap.size (by with_unfolding_all rfl) _ _ _ _ (unhide KN) Try.underlying59 (by with_unfolding_all rfl) s147 ?_))
          generalize wr.alloc (.cells TF 59) = wt at *
          clear KN s147 XF szf hixt HH
          go_loopw [9, 44] (fun _ q wr => ∃ j : Nat, j ≤ 49 ∧ q = .int .i64 j ∧ Held W (SHas W m b St S.unm A) w wr G [(g, .cells (nmR (nmT (nmC S c) f j)) 124)]) (fun _ q _ => 49 - (intOf q).toNat)
          case atStart => exact ⟨0, by omega, rfl, by rw [nmT_zero]; exact unhide O1⟩
          case round =>
            clear O1
            obtain ⟨j, hj, rfl, hh⟩ := hrel
            have HH := hide hh
            clear hh
            by_cases hlt3 : j < 49
            · have hix := fun U => unhide HXE U j hlt3
              have HI := hide (nmT_in (nmC S c) f j)
              have HU := hide (nmT_out (nmC S c) f j)
              obtain ⟨k, v, l, hx⟩ : ∃ k v l, f j = ⟨k, v, l⟩ := ⟨_, _, _, rfl⟩
              rw [hx] at hix HI HU
              have hi2 : ∀ U : World, Sem.run Try.prog (Instr.index 59 (.agg TF) (.int .i64 (j : Int))) U = .ok (.agg #[.int .i64 k, .int .i64 v, .int .i64 l]) U := hix
              have O1 := hide (((unhide HH).alloc (unhide TU) (.cells #[.int .i64 k, .int .i64 v, .int .i64 l] 23)).less (unhide TU) (L' := [(g, .cells (nmR (nmT (nmC S c) f j)) 124)]) (by simp))
              clear hix hx HH
              by_cases hk : k = 0
              · have HE := hide (unhide HU hk)
                rw [← unhide HE] at O1
                subst hk
                clear HI HU HE
                go_wp2_with fail
                go_roundw
                case rel => exact ⟨j + 1, by omega, by go_num, unhide O1⟩
                case measure => simp [intOf]; omega
              · have HE := hide (unhide HI hk)
                have CN := hide (name_obj ((unhide O1).at g (.cells (nmR (nmT (nmC S c) f j)) 124) (by simp)) l)
                rw [← unhide HE] at CN
                have hk1 : (k != 0) = true := by simpa using hk
                clear HI HU hk HE
                go_wp2_with fail
                refine (unhide CN).mono ?_
                rintro e wn ⟨rfl, hk1, hk2⟩
                have H2 := hide ((unhide O1).turnHd (unhide TU) (.cells (nmR (nmT (nmC S c) f (j + 1))) 124) (unhide NE) hk1 hk2)
                clear hk1 hk2 O1 CN hi2
                go_wp2_with fail
                go_roundw
                case rel => exact ⟨j + 1, by omega, by go_num, unhide H2⟩
                case measure => simp [intOf]; omega
            · obtain rfl : j = 49 := by omega
              rw [← unhide HN] at HH
              go_wp2_with fail
              go_roundw
              case rel => exact ⟨c + 1, by omega, by go_num, unhide HH⟩
              case measure => simp [intOf]; omega
        · obtain rfl : c = 2 := by omega
          clear HD ZT1 szU
          have KN := hide ((unhide HH).at g (.cells (nmR (nmC S 2)) 124) (by simp))
          have s1 := s1024 (nmC S 2)
          have HXN : Hid (∀ (U : World) (j : Nat), j < 1024 → Sem.run Try.prog (Instr.index 124 (.agg (nmR (nmC S 2))) (.int .i64 (j : Int))) U = .ok (.bool (nmC S 2 j)) U) := fun U j hj => run_index_nm U _ j hj
          have EN : Hid (S.unmarkS = S.swept (nmC S 2) 1024) := rfl
          have OS : Hid (SHas W m b St (S.swept (nmC S 2) 0) A wr G ∧ Same G w wr) := ⟨(((unhide HH).less (unhide TU) (L' := []) (by simp)).done (unhide TU) (.bool true)).2.1.eqS (by unfold Sto.swept; rw [freeTo_zero]; rfl), (unhide HH).2.2⟩
          clear HH
          generalize nmC S 2 = nm at *
          generalize nmR nm = RR at *
          go_wp2_with (with_reducible refine wpList_load_row (by with_unfolding_all rfl) 124 _ (by with_unfolding_all rfl) g (by with_unfolding_all rfl) _ _ _ _ (unhide KN) Try.underlying124 (by with_unfolding_all rfl) s1 ?_)
          clear KN s1
          go_loopw [10, 11, 57] (fun _ _ q wr => ∃ j : Nat, j ≤ 1024 ∧ q = .int .i64 j ∧ SHas W m b St (S.swept nm j) A wr G ∧ Same G w wr) (fun _ _ q _ => 1024 - (intOf q).toNat)
          case atStart => exact ⟨0, by omega, rfl, (unhide OS).1, (unhide OS).2⟩
          case round =>
            clear OS
            obtain ⟨j, hj, rfl, hh, hs⟩ := hrel
            have HH := hide hh
            have HSM := hide hs
            clear hh hs
            by_cases hlt4 : j < 1024
            · have hix := fun U => unhide HXN U j hlt4
              cases hn : nm j with
              | true =>
                have EQ := hide (freeTo_same S.F nm j hn)
                rw [hn] at hix
                clear hn
                go_wp2_with fail
                go_roundw
                case rel => exact ⟨j + 1, by omega, by go_num, (unhide HH).eqS (by unfold Sto.swept; rw [unhide EQ]), unhide HSM⟩
                case measure => simp [intOf]; omega
              | false =>
                have EQ := hide (freeTo_next S.F nm j hn)
                rw [hn] at hix
                have CR := hide (sfree_any (unhide HH).rep.frs (freeTo_ok hS.1 nm j) (j : Int))
                clear hn
                go_wp2_with fail
                refine (unhide CR).mono ?_
                intro e wn hw
                obtain ⟨rfl, h1, h2⟩ := (unhide HH).went M hw
                have H1 : Hid (SHas W m b St (S.swept nm (j + 1)) A wn G) := h1.eqS (by unfold Sto.swept; rw [unhide EQ]; rfl)
                have H2 := hide ((unhide HSM).trans h2)
                clear hw h1 h2 CR HH HSM hix
                go_wp2_with fail
                go_roundw
                case rel => exact ⟨j + 1, by omega, by go_num, unhide H1, unhide H2⟩
                case measure => simp [intOf]; omega
            · obtain rfl : j = 1024 := by omega
              go_wp2_with fail
              go_end0
              rw [unhide EN]
              exact ⟨rfl, unhide HH, unhide HSM⟩

end Go.Proofs.Ytjmgmbigbkllgaa
