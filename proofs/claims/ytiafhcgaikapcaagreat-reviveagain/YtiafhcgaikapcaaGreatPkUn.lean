import Derived.Test.YtiafhcgaikapcaaGreatPkTel
import Derived.Test.YtiafhcgaikapcaaGreatPkNvm
import Derived.Test.YtiafhcgaikapcaaGreatPkSto

/-
  unmark: nothing is marked, and what nothing names is free; Commit, Abort.
-/
namespace Go.Proofs.YtiafhcgaikapcaaGreat
open Go.ChangeShapes Go.WideShapes Go.ChangeAt Go.RowKit Go.Joins
set_option maxRecDepth 10000
set_option linter.unusedVariables false
set_option linter.unusedSimpArgs false

/-! ### the row of what is named -/
def nmR (nm : Nat → Bool) : Array Value := tab 1024 fun i => .bool (nm i)
theorem nmR_size (nm : Nat → Bool) : (nmR nm).size = 1024 := tab_size _ _
theorem nmR_get (nm : Nat → Bool) (i : Nat) (h : i < 1024) : (nmR nm)[i]? = some (.bool (nm i)) := tab_get _ _ _ h
theorem zero_nm : (Tryz.prog.info? 255).map (·.zero) = some (some (.agg (nmR fun _ => false))) := by kernel_rfl
theorem s1024 (nm : Nat → Bool) : (Tryz.prog.info? 255).map (·.size) = some (nmR nm).size := by rw [nmR_size]; kernel_rfl
def nmP (nm : Nat → Bool) (z : Int) : Nat → Bool := fun i => nm i || z == (i : Int)
theorem nmR_put (nm : Nat → Bool) (i : Nat) : (nmR nm).setIfInBounds i (.bool true) = nmR (nmP nm (i : Int)) := by
  unfold nmR
  rw [tab_set]
  refine tab_ext fun j _ => ?_
  unfold nmP
  by_cases e : j = i
  · subst e; rw [upd_same]; simp
  · rw [upd_other _ _ _ _ e]
    have : ((i : Int) == (j : Int)) = false := by simp; omega
    rw [this, Bool.or_false]
theorem nmR_out (nm : Nat → Bool) (z : Int) (h : ¬ (0 ≤ z ∧ z < 1024)) : nmR nm = nmR (nmP nm z) := by
  unfold nmR
  refine tab_ext fun j hj => ?_
  unfold nmP
  have : (z == (j : Int)) = false := by simp; omega
  rw [this, Bool.or_false]

theorem name_obj {w : World} {g : Nat} {nm : Nat → Bool} (h : w.heap[g]? = some (.cells (nmR nm) 255 (0, 0))) (z : Int) :
    Calls Tryz.prog 188 (#[.int .i64 z] ++ #[.pointer (some ⟨g, 0, none⟩)]) w fun e w' => e = .returned (.tuple #[]) ∧ Keeps (· = g) w w' ∧ w'.heap[g]? = some (.cells (nmR (nmP nm z)) 255 (0, 0)) := by
  by_cases hz : 0 ≤ z ∧ z < 1024
  · obtain ⟨i, rfl⟩ : ∃ i : Nat, z = (i : Int) := ⟨z.toNat, by omega⟩
    have hi : i < 1024 := by omega
    have hi0 : (0 : Int) ≤ (i : Int) := by omega
    have hi1 : (i : Int) < 1024 := by omega
    have cg : w.cell? ⟨g, i, none⟩ = some (.bool (nm i)) := by rw [cell_of_block h]; exact nmR_get _ _ hi
    have fg : w.frozen? ⟨g, i, none⟩ = false := unfrozen_of_block h _
    have K := hide (Keeps.setCell (F := (· = g)) (p := ⟨g, i, none⟩) (Keeps.refl _ w) rfl (.bool true))
    have B : Hid ((w.setCell ⟨g, i, none⟩ (.bool true)).heap[g]? = some (.cells (nmR (nmP nm (i : Int))) 255 (0, 0))) := by
      show _ = _
      rw [block_setCell h, nmR_put]
    clear h hz
    go_enter Tryz.func188, Tryz.ntmps188
    go_wp2_with fail
    go_end0
    exact ⟨rfl, unhide K, unhide B⟩
  · have K := hide (Keeps.refl (· = g) w)
    have B : Hid (w.heap[g]? = some (.cells (nmR (nmP nm z)) 255 (0, 0))) := by
      show _ = _
      rw [h, nmR_out nm z hz]
    have hz' : z < 0 ∨ 1024 ≤ z := by omega
    clear h hz
    rcases hz' with hz | hz
    · go_enter Tryz.func188, Tryz.ntmps188
      go_wp2_with fail
      go_end0
      exact ⟨rfl, unhide K, unhide B⟩
    · have h0 : 0 ≤ z := by omega
      go_enter Tryz.func188, Tryz.ntmps188
      go_wp2_with fail
      go_end0
      exact ⟨rfl, unhide K, unhide B⟩

/-! ### what is named so far -/
def nmD (d : Nat → Int) (j : Nat) : Nat → Bool := fun i => (List.range j).any fun q => d q == (i : Int)
theorem nmD_next (d : Nat → Int) (j : Nat) : nmD d (j + 1) = nmP (nmD d j) (d j) := by
  funext i; unfold nmD nmP; rw [List.range_succ, List.any_append]; simp
theorem nmD_all (d : Nat → Int) (i : Nat) : nmD d 8 i = inD d (i : Int) := rfl
def nmT (nm : Nat → Bool) (f : Nat → En) (j : Nat) : Nat → Bool := fun i => nm i || hasTo f (i : Int) j
theorem nmT_zero (nm : Nat → Bool) (f : Nat → En) : nmT nm f 0 = nm := by funext i; unfold nmT; rw [hasTo_zero, Bool.or_false]
theorem nmT_in (nm : Nat → Bool) (f : Nat → En) (j : Nat) (h : (f j).k ≠ 0) : nmT nm f (j + 1) = nmP (nmT nm f j) (f j).l := by
  funext i; unfold nmT nmP; rw [hasTo_next, ← Bool.or_assoc]
  congr 1
  unfold atB
  rw [Bool.eq_iff_iff, decide_eq_true_iff, beq_iff_eq]
  exact ⟨fun q => q.2, fun q => ⟨h, q⟩⟩
theorem nmT_out (nm : Nat → Bool) (f : Nat → En) (j : Nat) (h : (f j).k = 0) : nmT nm f (j + 1) = nmT nm f j := by
  funext i; unfold nmT; rw [hasTo_next, atB_no (fun q => q.1 h), Bool.or_false]

/-! ### two tables by value -/
def ttV (f g : Nat → En) : Array Value := tabV f ++ tabV g
theorem built_tt (f g : Nat → En) : Tryz.prog.built 256 [(0, .agg (tabV f)), (1, .agg (tabV g))] = some (ttV f g) := by kernel_rfl

theorem ext0 {α : Type} (a b : Array α) (n : Nat) (h : a.size = n) : (a ++ b).extract 0 n = a := by
  subst h; simp
theorem ext1 {α : Type} (a b : Array α) (n m : Nat) (h : a.size = n) (h2 : b.size + n = m) : (a ++ b).extract n m = b := by
  subst h; subst h2
  apply Array.ext_getElem?
  intro i
  rw [Array.getElem?_extract, Array.getElem?_append]
  by_cases hi : i < b.size
  · rw [if_pos (by simp; omega), if_neg (by omega)]; congr 1; omega
  · rw [if_neg (by simp; omega), Array.getElem?_eq_none (by omega)]
theorem tt_0 (f g : Nat → En) : (ttV f g).extract 0 147 = tabV f := ext0 _ _ _ (tabV_size f)
theorem tt_1 (f g : Nat → En) : (ttV f g).extract 147 (147 + 147) = tabV g := ext1 _ _ _ _ (tabV_size f) (by rw [tabV_size])
theorem run_index_tt (W : World) (f g : Nat → En) (i : Nat) (h : i < 2) :
    Sem.run Tryz.prog (Instr.index 256 (.agg (ttV f g)) (.int .i64 (i : Int))) W = .ok (.agg (tabV (if i = 0 then f else g))) W := by
  have h' : (0 : Int) ≤ (i : Int) ∧ (i : Int) < ((2 : Nat) : Int) := by omega
  have hagg : (isAgg 66).run Tryz.prog W = .ok true W := by
    unfold isAgg
    rw [Sem.run_bind, run_underlying Tryz.underlying66 W]
    simp
  simp only [Instr.index, asIntOf, Sem.run_bind, Sem.run_pure, Result.andThen_ok, run_underlying Tryz.underlying256 W, if_pos h', run_sizeOf W 66 147 size147, Int.toNat_natCast, part, hagg, if_true]
  rcases (show i = 0 ∨ i = 1 by omega) with rfl | rfl
  · rw [if_pos rfl, Nat.zero_mul, Nat.zero_add, tt_0]
  · rw [if_neg (by decide), Nat.one_mul, tt_1]
theorem run_index_dir (W : World) (d : Nat → Int) (i : Nat) (h8 : i < 8) :
    Sem.run Tryz.prog (Instr.index 67 (.agg (dirV d)) (.int .i64 (i : Int))) W = .ok (.int .i64 (d i)) W := by
  have h8' : (0 : Int) ≤ (i : Int) ∧ (i : Int) < 8 := by omega
  have h : (dirV d)[i]? = some (.int .i64 (d i)) := by
    have := congrArg (fun l => l[i]?) (dirV_list d)
    simp only [Array.getElem?_toList] at this
    rw [this, List.getElem?_map, List.getElem?_range h8]; rfl
  simp [Instr.index, run_underlying Tryz.underlying67, asIntOf, h8, go_sem, part, h]
theorem run_index_nm (W : World) (nm : Nat → Bool) (i : Nat) (h8 : i < 1024) :
    Sem.run Tryz.prog (Instr.index 255 (.agg (nmR nm)) (.int .i64 (i : Int))) W = .ok (.bool (nm i)) W := by
  have h8' : (0 : Int) ≤ (i : Int) ∧ (i : Int) < 1024 := by omega
  have h := nmR_get nm i h8
  generalize nmR nm = R at *
  simp [Instr.index, run_underlying Tryz.underlying255, asIntOf, h8, go_sem, part, h]

section
variable {W : World} {St : World → (Nat → Prop) → Prop} {w0 w w' : World} {G : Nat → Prop} {L : List (Nat × Obj)}
/-- The block that was laid last turns. -/
theorem Held.turnHd (S : Stay W St) {g : Nat} {o : Obj} (o' : Obj) (h : Held W St w0 w G ((g, o) :: L)) (hne : ∀ p ∈ L, p.1 ≠ g) (hk : Keeps (· = g) w w') (ho : w'.heap[g]? = some o') : Held W St w0 w' G ((g, o') :: L) :=
  (h.turnOwn S g o o' List.mem_cons_self hk ho).less S fun p hp => by
    rcases List.mem_cons.1 hp with rfl | hp
    · exact List.mem_cons_self
    · exact List.mem_cons_of_mem _ (List.mem_filter.2 ⟨List.mem_cons_of_mem _ hp, by simpa using hne p hp⟩)
end

/-! ### unmark -/
def Sto.unm (S : Sto) : Sto := ⟨S.F, S.w, S.b, S.d, fun _ => ze, false⟩
def nmC (S : Sto) : Nat → Nat → Bool
  | 0 => nmD S.d 8
  | 1 => nmT (nmD S.d 8) S.b 49
  | _ => nmT (nmT (nmD S.d 8) S.b 49) S.w 49
theorem nmC_next (S : Sto) (c : Nat) (h : c < 2) : nmC S (c + 1) = nmT (nmC S c) (if c = 0 then S.b else S.w) 49 := by
  rcases (show c = 0 ∨ c = 1 by omega) with rfl | rfl <;> rfl
def Sto.swept (S : Sto) (nm : Nat → Bool) (j : Nat) : Sto := S.unm.withF (S.F.freeTo nm j)
theorem tabV_ze : tabV (fun _ => ze) = iv .i64 (zrow 49) := rfl
theorem build_tab : Tryz.prog.built 66 [] = some (tabV fun _ => ze) := by kernel_rfl

set_option maxHeartbeats 4000000 in
theorem unmark_any {W w : World} {m b : Nat} {St : Mm → World → (Nat → Prop) → Prop} {S : Sto} {A : Mm} {G : Nat → Prop} (M : MemL W m St) (h : SHas W m b St S A w G) (hS : S.ok) :
    Calls Tryz.prog 154 #[.pointer (some ⟨b, 0, none⟩)] w (Done (SHas W m b St S.unmarkS A) w G (.tuple #[])) := by
  have R1 : SRep m ⟨S.F, S.w, S.b, S.d, fun _ => ze, S.is⟩ (w.setCells b 1329 (tabV fun _ => ze).toList) b := h.rep.putK _
  have R2 := R1.putIs false
  have KP := ((keeps_cells b (tabV fun _ => ze).toList w 1329)).trans' (Keeps.setCell (F := (· = b)) (p := ⟨b, 1476, none⟩) (Keeps.refl _ _) rfl (.bool false))
  have HT := h.turned M (S' := S.unm) R2 KP
  have TU := hide (SHas.stay M b S.unm A)
  have OU := hide (Held.turn (Held.start (SHas.stay M b S A) h) (St' := SHas W m b St S.unm A) (w' := (w.setCells b 1329 (tabV fun _ => ze).toList).setCell ⟨b, 1476, none⟩ (.bool false)) ⟨(SHas.stay M b S.unm A).ls _ _ _ HT.1 (by simp), fun k hk => HT.2 k (by simpa using hk)⟩)
  have TH := Blk.there h.rep 1329 147 (by decide)
  have cs : (w.setCells b 1329 (tabV fun _ => ze).toList).cell? ⟨b, 1476, none⟩ = some (.bool S.is) := R1.cis
  have fs : (w.setCells b 1329 (tabV fun _ => ze).toList).frozen? ⟨b, 1476, none⟩ = false := Blk.free R1 _
  have s147 := s147_tab fun _ => ze
  have hsz : (tabV fun _ => ze).size = 147 := tabV_size _
  rw [← hsz] at TH
  have HTH := hide TH
  have Z1 := hide (tabV_one fun _ => ze)
  have BT := hide build_tab
  clear h R1 R2 KP HT TH hsz
  generalize hZT : (tabV fun _ => ze) = ZT at *
  clear hZT
  go_enter Tryz.func154, Tryz.ntmps154
  go_upto_region 1 with (first | (with_reducible refine wpList_build0 (by with_unfolding_all rfl) 66 (by with_unfolding_all rfl) ZT (unhide BT) ?_) | (with_reducible refine wpList_store_mid (by with_unfolding_all rfl) 66 _ _ (by with_unfolding_all rfl) b 1329 ZT (by with_unfolding_all rfl) (by with_unfolding_all rfl) (unhide HTH) s147 (unhide Z1) ?_))
  generalize (w.setCells b 1329 ZT.toList).setCell ⟨b, 1476, none⟩ (.bool false) = w1 at *
  clear cs fs HTH s147 Z1 BT
  have ON := hide ((unhide OU).alloc (unhide TU) (.cells (nmR (nmD S.d 0)) 255))
  obtain ⟨g, hg⟩ : ∃ g, g = w1.heap.size := ⟨_, rfl⟩
  have e0 : (nmR fun _ => false) = nmR (nmD S.d 0) := rfl
  have Z0 := zero_nm
  rw [e0] at Z0
  have HZ0 := hide Z0
  have s8 := s8_dir S.d
  have HXD : Hid (∀ (U : World) (j : Nat), j < 8 → Sem.run Tryz.prog (Instr.index 67 (.agg (dirV S.d)) (.int .i64 (j : Int))) U = .ok (.int .i64 (S.d j)) U) := fun U j hj => run_index_dir U S.d j hj
  clear OU Z0 e0
  rw [← hg] at ON
  obtain ⟨RN, hRN⟩ : ∃ RN, RN = nmR (nmD S.d 0) := ⟨_, rfl⟩
  rw [← hRN] at HZ0
  have HRN := hide hRN
  rw [← hRN] at ON
  clear hRN
  go_upto_region 2 with (with_reducible refine wpList_allocZ (by with_unfolding_all rfl) 255 (by with_unfolding_all rfl) RN (unhide HZ0) ?_)
  rw [← hg]
  generalize w1.alloc (.cells RN 255) = w2 at *
  clear hg HZ0
  rw [unhide HRN] at ON
  clear HRN
  have RD : Hid (w2.rangeAt b 1321 (dirV S.d).toList) := (unhide ON).st.rep.rd
  obtain ⟨DV, hDV⟩ : ∃ DV, DV = dirV S.d := ⟨_, rfl⟩
  rw [← hDV] at RD s8 HXD
  clear hDV
  have s8' : (Tryz.prog.info? 67).map (·.size) = some DV.toList.length := by rw [Array.length_toList]; exact s8
  have NE : Hid (∀ p ∈ ([] : List (Nat × Obj)), p.1 ≠ g) := by intro p hp; cases hp
  go_wp2_with (with_reducible refine wpList_load_mid (by with_unfolding_all rfl) 67 _ (by with_unfolding_all rfl) b 1321 (by with_unfolding_all rfl) DV.toList _ (unhide RD) Tryz.underlying67 (by with_unfolding_all rfl) s8' ?_)
  go_loopw [5, 24] (fun _ c wr => ∃ j : Nat, j ≤ 8 ∧ c = .int .i64 j ∧ Held W (SHas W m b St S.unm A) w wr G [(g, .cells (nmR (nmD S.d j)) 255)]) (fun _ c _ => 8 - (intOf c).toNat)
  case atStart => exact ⟨0, by omega, rfl, unhide ON⟩
  case round =>
    clear ON RD
    obtain ⟨j, hj, rfl, hh⟩ := hrel
    have HH := hide hh
    clear hh
    by_cases hlt : j < 8
    · have hix := fun U => unhide HXD U j hlt
      have CN := hide (name_obj ((unhide HH).at g (.cells (nmR (nmD S.d j)) 255) (by simp)) (S.d j))
      rw [← nmD_next] at CN
      generalize S.d j = z at *
      go_wp2_with fail
      refine (unhide CN).mono ?_
      rintro e wn ⟨rfl, hk1, hk2⟩
      have H2 := hide ((unhide HH).turnHd (unhide TU) (.cells (nmR (nmD S.d (j + 1))) 255) (unhide NE) hk1 hk2)
      clear hk1 hk2 HH CN hix
      go_wp2_with fail
      go_roundw
      case rel => exact ⟨j + 1, by omega, by go_num, unhide H2⟩
      case measure => simp [intOf]; omega
    · have e8 : j = 8 := by omega
      clear HXD s8 s8'
      go_upto_region 8 with fail
      rw [e8] at HH
      clear hlt hj e8
      generalize (j : Int) = last at *
      have RB : Hid (wr.rangeAt b 1174 (tabV S.b).toList) := (unhide HH).st.rep.rb
      have RW : Hid (wr.rangeAt b 1027 (tabV S.w).toList) := (unhide HH).st.rep.rw
      have s147b : (Tryz.prog.info? 66).map (·.size) = some (tabV S.b).toList.length := by rw [Array.length_toList]; exact s147_tab _
      have s147w : (Tryz.prog.info? 66).map (·.size) = some (tabV S.w).toList.length := by rw [Array.length_toList]; exact s147_tab _
      have BT := hide (built_tt S.b S.w)
      have HXT := hide (fun (U : World) (c : Nat) (hc : c < 2) => run_index_tt U S.b S.w c hc)
      refine wp_region_noPanic ?_
      refine wp_region_held_drew (S := fun w' => w'.rangeAt b 1174 (tabV S.b).toList ∧ w'.rangeAt b 1027 (tabV S.w).toList) (by kernel_rfl) ⟨unhide RB, unhide RW⟩ (fun hHeld => ?_)
      refine take_at 0 31 (v := ?_) rfl rfl (by kernel_rfl) (by kernel_rfl) (by kernel_rfl) (Or.inl ⟨by rfl, ?_⟩) hHeld ?_
      rotate_left
      · intro w hSw; go_simp; with_reducible rfl
      simp only [Act.put, List.setIfInBounds_toArray, List.set_cons_zero, List.set_cons_succ]
      refine take_at 1 32 (v := ?_) rfl rfl (by kernel_rfl) (by kernel_rfl) (by kernel_rfl) (Or.inl ⟨by rfl, ?_⟩) hHeld ?_
      rotate_left
      · intro w hSw; go_simp; with_reducible rfl
      simp only [Act.put, List.setIfInBounds_toArray, List.set_cons_zero, List.set_cons_succ]
      refine take_at 2 33 (v := ?_) rfl rfl (by kernel_rfl) (by kernel_rfl) (by kernel_rfl) (Or.inl ⟨by rfl, ?_⟩) hHeld ?_
      rotate_left
      · intro w hSw; go_simp; with_reducible rfl
      simp only [Act.put, List.setIfInBounds_toArray, List.set_cons_zero, List.set_cons_succ]
      refine take_at 3 34 rfl rfl (by kernel_rfl) (by kernel_rfl) (by kernel_rfl) (yieldsIf_load_mid (by rfl) 66 _ rfl b 1174 rfl (tabV S.b).toList _ (fun w' h => h.1) Tryz.underlying66 rfl s147b) hHeld ?_
      simp only [Act.put, List.setIfInBounds_toArray, List.set_cons_zero, List.set_cons_succ]
      refine take_at 4 35 (v := ?_) rfl rfl (by kernel_rfl) (by kernel_rfl) (by kernel_rfl) (Or.inl ⟨by rfl, ?_⟩) hHeld ?_
      rotate_left
      · intro w hSw; go_simp; with_reducible rfl
      simp only [Act.put, List.setIfInBounds_toArray, List.set_cons_zero, List.set_cons_succ]
      refine take_at 5 36 (v := ?_) rfl rfl (by kernel_rfl) (by kernel_rfl) (by kernel_rfl) (Or.inl ⟨by rfl, ?_⟩) hHeld ?_
      rotate_left
      · intro w hSw; go_simp; with_reducible rfl
      simp only [Act.put, List.setIfInBounds_toArray, List.set_cons_zero, List.set_cons_succ]
      refine take_at 6 37 (v := ?_) rfl rfl (by kernel_rfl) (by kernel_rfl) (by kernel_rfl) (Or.inl ⟨by rfl, ?_⟩) hHeld ?_
      rotate_left
      · intro w hSw; go_simp; with_reducible rfl
      simp only [Act.put, List.setIfInBounds_toArray, List.set_cons_zero, List.set_cons_succ]
      refine take_at 7 38 rfl rfl (by kernel_rfl) (by kernel_rfl) (by kernel_rfl) (yieldsIf_load_mid (by rfl) 66 _ rfl b 1027 rfl (tabV S.w).toList _ (fun w' h => h.2) Tryz.underlying66 rfl s147w) hHeld ?_
      simp only [Act.put, List.setIfInBounds_toArray, List.set_cons_zero, List.set_cons_succ]
      refine take_at 8 39 rfl rfl (by kernel_rfl) (by kernel_rfl) (by kernel_rfl) (yieldsIf_build2 (by rfl) 256 0 1 (.tmp 34) (.tmp 38) rfl (.agg (tabV S.b)) (.agg (tabV S.w)) rfl rfl _ (unhide BT)) hHeld ?_
      simp only [Act.put, List.setIfInBounds_toArray, List.set_cons_zero, List.set_cons_succ]
      refine take_at 9 40 (v := ?_) rfl rfl (by kernel_rfl) (by kernel_rfl) (by kernel_rfl) (Or.inl ⟨by rfl, ?_⟩) hHeld ?_
      rotate_left
      · intro w hSw; go_simp; with_reducible rfl
      simp only [Act.put, List.setIfInBounds_toArray, List.set_cons_zero, List.set_cons_succ]
      refine wpAnyH_done (by kernel_rfl) ?_ _
      refine NoPanic.normal ?_
      have HC : Hid (Held W (SHas W m b St S.unm A) w wr.drew G [(g, .cells (nmR (nmC S 0)) 255)]) := (unhide HH).drew (unhide TU)
      have HD : Hid (∀ (U : World) (c : Nat), c < 2 → Sem.run Tryz.prog (Instr.index 256 (.agg (ttV S.b S.w)) (.int .i64 (c : Int))) U = .ok (.agg (tabV (if c = 0 then S.b else S.w))) U) := fun U c hc => unhide HXT U c hc
      clear hHeld RB RW s147b s147w BT HH HXT
      generalize wr.drew = wq at *
      have ZT1 := hide zero_tab
      generalize hZU : (tabV fun _ => ze) = ZU at *
      have szU : Hid (∀ f, ZU.size = (tabV f).size) := fun f => by rw [← hZU, tabV_size, tabV_size]
      clear hZU
      generalize ttV S.b S.w = TT at *
      generalize (tabV S.b).toList.toArray = X1 at *
      generalize (tabV S.w).toList.toArray = X2 at *
      go_wp2_with fail
      go_loopw [7, 9, 40] (fun _ _ c wr => ∃ j : Nat, j ≤ 2 ∧ c = .int .i64 j ∧ Held W (SHas W m b St S.unm A) w wr G [(g, .cells (nmR (nmC S j)) 255)]) (fun _ _ c _ => 2 - (intOf c).toNat)
      case atStart => exact ⟨0, by omega, rfl, unhide HC⟩
      case round =>
        clear HC
        obtain ⟨c, hc, rfl, hh⟩ := hrel
        have HH := hide hh
        clear hh
        by_cases hlt2 : c < 2
        · have hixt := fun U => unhide HD U c hlt2
          have HN := hide (nmC_next S c hlt2)
          generalize (if c = 0 then S.b else S.w) = f at *
          have HXE : Hid (∀ (U : World) (j : Nat), j < 49 → Sem.run Tryz.prog (Instr.index 66 (.agg (tabV f)) (.int .i64 (j : Int))) U = .ok (.agg (ev (f j))) U) := fun U j hj => by
            rw [← rowE_at 49 f j hj]; exact run_index_en _ 49 Tryz.underlying66 U _ (rowE_len _ _) .i64 j hj
          have O1 := hide (((unhide HH).alloc (unhide TU) (.cells (tabV f) 66)).less (unhide TU) (L' := [(g, .cells (nmR (nmC S c)) 255)]) (by simp))
          have KN := hide (heap_new wr (.cells (tabV f) 66))
          have s147 := s147_tab f
          have XF := hide (tabV_one f)
          have szf := hide (unhide szU f)
          generalize tabV f = TF at *
          go_wp2_with (first | (with_reducible refine wpList_allocZ (by with_unfolding_all rfl) 66 (by with_unfolding_all rfl) ZU (unhide ZT1) ?_) | (with_reducible refine wpList_store_row (by with_unfolding_all rfl) 66 _ _ (by with_unfolding_all rfl) wr.heap.size TF (by with_unfolding_all rfl) (by with_unfolding_all rfl) 66 ZU (heap_new wr _) s147 (unhide szf) (unhide XF) ?_; rw [setRow_alloc]) | (with_reducible refine wpList_load_row (by with_unfolding_all rfl) 66 _ (by with_unfolding_all rfl) wr.heap.size (by with_unfolding_all rfl) _ _ _ _ (unhide KN) Tryz.underlying66 (by with_unfolding_all rfl) s147 ?_))
          generalize wr.alloc (.cells TF 66) = wt at *
          clear KN s147 XF szf hixt HH
          go_loopw [9, 44] (fun _ q wr => ∃ j : Nat, j ≤ 49 ∧ q = .int .i64 j ∧ Held W (SHas W m b St S.unm A) w wr G [(g, .cells (nmR (nmT (nmC S c) f j)) 255)]) (fun _ q _ => 49 - (intOf q).toNat)
          case atStart => exact ⟨0, by omega, rfl, by rw [nmT_zero]; exact unhide O1⟩
          case round =>
            clear O1
            obtain ⟨j, hj, rfl, hh⟩ := hrel
            have HH := hide hh
            clear hh
            by_cases hlt3 : j < 49
            · have hix := fun U => unhide HXE U j hlt3
              have HI := hide (nmT_in (nmC S c) f j)
              have HU := hide (nmT_out (nmC S c) f j)
              obtain ⟨k, v, l, hx⟩ : ∃ k v l, f j = ⟨k, v, l⟩ := ⟨_, _, _, rfl⟩
              rw [hx] at hix HI HU
              have hi2 : ∀ U : World, Sem.run Tryz.prog (Instr.index 66 (.agg TF) (.int .i64 (j : Int))) U = .ok (.agg #[.int .i64 k, .int .i64 v, .int .i64 l]) U := hix
              have O1 := hide (((unhide HH).alloc (unhide TU) (.cells #[.int .i64 k, .int .i64 v, .int .i64 l] 41)).less (unhide TU) (L' := [(g, .cells (nmR (nmT (nmC S c) f j)) 255)]) (by simp))
              clear hix hx HH
              by_cases hk : k = 0
              · have HE := hide (unhide HU hk)
                rw [← unhide HE] at O1
                subst hk
                clear HI HU HE
                go_wp2_with fail
                go_roundw
                case rel => exact ⟨j + 1, by omega, by go_num, unhide O1⟩
                case measure => simp [intOf]; omega
              · have HE := hide (unhide HI hk)
                have CN := hide (name_obj ((unhide O1).at g (.cells (nmR (nmT (nmC S c) f j)) 255) (by simp)) l)
                rw [← unhide HE] at CN
                have hk1 : (k != 0) = true := by simpa using hk
                clear HI HU hk HE
                go_wp2_with fail
                refine (unhide CN).mono ?_
                rintro e wn ⟨rfl, hk1, hk2⟩
                have H2 := hide ((unhide O1).turnHd (unhide TU) (.cells (nmR (nmT (nmC S c) f (j + 1))) 255) (unhide NE) hk1 hk2)
                clear hk1 hk2 O1 CN hi2
                go_wp2_with fail
                go_roundw
                case rel => exact ⟨j + 1, by omega, by go_num, unhide H2⟩
                case measure => simp [intOf]; omega
            · obtain rfl : j = 49 := by omega
              rw [← unhide HN] at HH
              go_wp2_with fail
              go_roundw
              case rel => exact ⟨c + 1, by omega, by go_num, unhide HH⟩
              case measure => simp [intOf]; omega
        · obtain rfl : c = 2 := by omega
          clear HD ZT1 szU
          have KN := hide ((unhide HH).at g (.cells (nmR (nmC S 2)) 255) (by simp))
          have s1 := s1024 (nmC S 2)
          have HXN : Hid (∀ (U : World) (j : Nat), j < 1024 → Sem.run Tryz.prog (Instr.index 255 (.agg (nmR (nmC S 2))) (.int .i64 (j : Int))) U = .ok (.bool (nmC S 2 j)) U) := fun U j hj => run_index_nm U _ j hj
          have EN : Hid (S.unmarkS = S.swept (nmC S 2) 1024) := rfl
          have OS : Hid (SHas W m b St (S.swept (nmC S 2) 0) A wr G ∧ Same G w wr) := ⟨(((unhide HH).less (unhide TU) (L' := []) (by simp)).done (unhide TU) (.bool true)).2.1.eqS (by unfold Sto.swept; rw [freeTo_zero]; rfl), (unhide HH).2.2⟩
          clear HH
          generalize nmC S 2 = nm at *
          generalize nmR nm = RR at *
          go_wp2_with (with_reducible refine wpList_load_row (by with_unfolding_all rfl) 255 _ (by with_unfolding_all rfl) g (by with_unfolding_all rfl) _ _ _ _ (unhide KN) Tryz.underlying255 (by with_unfolding_all rfl) s1 ?_)
          clear KN s1
          go_loopw [10, 11, 57] (fun _ _ q wr => ∃ j : Nat, j ≤ 1024 ∧ q = .int .i64 j ∧ SHas W m b St (S.swept nm j) A wr G ∧ Same G w wr) (fun _ _ q _ => 1024 - (intOf q).toNat)
          case atStart => exact ⟨0, by omega, rfl, (unhide OS).1, (unhide OS).2⟩
          case round =>
            clear OS
            obtain ⟨j, hj, rfl, hh, hs⟩ := hrel
            have HH := hide hh
            have HSM := hide hs
            clear hh hs
            by_cases hlt4 : j < 1024
            · have hix := fun U => unhide HXN U j hlt4
              cases hn : nm j with
              | true =>
                have EQ := hide (freeTo_same S.F nm j hn)
                rw [hn] at hix
                clear hn
                go_wp2_with fail
                go_roundw
                case rel => exact ⟨j + 1, by omega, by go_num, (unhide HH).eqS (by unfold Sto.swept; rw [unhide EQ]), unhide HSM⟩
                case measure => simp [intOf]; omega
              | false =>
                have EQ := hide (freeTo_next S.F nm j hn)
                rw [hn] at hix
                have CR := hide (sfree_any (unhide HH).rep.frs (freeTo_ok hS.1 nm j) (j : Int))
                clear hn
                go_wp2_with fail
                refine (unhide CR).mono ?_
                intro e wn hw
                obtain ⟨rfl, h1, h2⟩ := (unhide HH).went M hw
                have H1 : Hid (SHas W m b St (S.swept nm (j + 1)) A wn G) := h1.eqS (by unfold Sto.swept; rw [unhide EQ]; rfl)
                have H2 := hide ((unhide HSM).trans h2)
                clear hw h1 h2 CR HH HSM hix
                go_wp2_with fail
                go_roundw
                case rel => exact ⟨j + 1, by omega, by go_num, unhide H1, unhide H2⟩
                case measure => simp [intOf]; omega
            · obtain rfl : j = 1024 := by omega
              go_wp2_with fail
              go_end0
              rw [unhide EN]
              exact ⟨rfl, unhide HH, unhide HSM⟩

end Go.Proofs.YtiafhcgaikapcaaGreat


/-
  Commit, Abort.
-/
namespace Go.Proofs.YtiafhcgaikapcaaGreat
open Go.ChangeShapes Go.WideShapes Go.ChangeAt Go.RowKit Go.Joins
set_option maxRecDepth 10000
set_option linter.unusedVariables false
set_option linter.unusedSimpArgs false

theorem abort_any {W w : World} {m b : Nat} {St : Mm → World → (Nat → Prop) → Prop} {S : Sto} {A : Mm} {G : Nat → Prop} (M : MemL W m St) (h : SHas W m b St S A w G) (hS : S.ok) :
    Calls Tryz.prog 91 #[.pointer (some ⟨b, 0, none⟩)] w (Done (SHas W m b St S.abortS A) w G (.int .i64 S.doneE)) := by
  have ci := h.rep.cis
  cases hi : S.is with
  | true =>
    have e1 : S.abortS = S.unmarkS := by unfold Sto.abortS; rw [hi]; rfl
    have e2 : S.doneE = 0 := by unfold Sto.doneE; rw [hi]; rfl
    rw [e1, e2]
    rw [hi] at ci
    have CU := hide (unmark_any M h hS)
    clear h hi e1 e2
    go_enter Tryz.func91, Tryz.ntmps91
    go_wp2_with fail
    refine (unhide CU).mono ?_
    rintro e w1 ⟨rfl, h1, h2⟩
    have H1 := hide h1
    have H2 := hide h2
    clear h1 h2 CU ci
    go_wp2_with fail
    go_ret
    exact ⟨rfl, unhide H1, unhide H2⟩
  | false =>
    have e1 : S.abortS = S := by unfold Sto.abortS; rw [hi]; rfl
    have e2 : S.doneE = 3 := by unfold Sto.doneE; rw [hi]; rfl
    rw [e1, e2]
    rw [hi] at ci
    have HH := hide h
    clear h hi e1 e2
    go_enter Tryz.func91, Tryz.ntmps91
    go_wp2_with fail
    go_ret
    exact ⟨rfl, unhide HH, fun _ _ => rfl⟩

set_option maxHeartbeats 2000000 in
theorem commit_any {W w : World} {m b : Nat} {St : Mm → World → (Nat → Prop) → Prop} {S : Sto} {A : Mm} {G : Nat → Prop} (M : MemL W m St) (h : SHas W m b St S A w G) (hS : S.ok) (d : Nat → Int) :
    Calls Tryz.prog 187 #[.pointer (some ⟨b, 0, none⟩), .agg (dirV d)] w (Done (SHas W m b St (S.commitS d) A) w G (.int .i64 S.doneE)) := by
  have T0 := hide (SHas.stay M b S A)
  have O0 := hide ((Held.start (unhide T0) h).alloc (unhide T0) (.cells (dirV d) 67))
  have ci : (w.alloc (.cells (dirV d) 67)).cell? ⟨b, 1476, none⟩ = some (.bool S.is) := (unhide O0).st.rep.cis
  cases hi : S.is with
  | false =>
    have e1 : S.commitS d = S := by unfold Sto.commitS; rw [hi]; rfl
    have e2 : S.doneE = 3 := by unfold Sto.doneE; rw [hi]; rfl
    rw [e1, e2]
    rw [hi] at ci
    clear h hi e1 e2
    go_enter Tryz.func187, Tryz.ntmps187
    go_wp2_with fail
    go_ret
    exact (unhide O0).done (unhide T0) _
  | true =>
    have e1 : S.commitS d = (Sto.mk S.F S.w S.k d S.k S.is).unmarkS := by unfold Sto.commitS; rw [hi]; rfl
    have e2 : S.doneE = 0 := by unfold Sto.doneE; rw [hi]; rfl
    rw [e1, e2]
    rw [hi] at ci
    have CU := hide (fun (w' : World) (G' : Nat → Prop) (h' : SHas W m b St (Sto.mk S.F S.w S.k d S.k S.is) A w' G') => unmark_any M h' ⟨hS.1, hS.2⟩)
    have s147 := s147_tab S.k
    have s8 := s8_dir d
    obtain ⟨g, hg⟩ : ∃ g, g = w.heap.size := ⟨_, rfl⟩
    rw [← hg] at O0
    clear h hi e1 e2
    go_enter Tryz.func187, Tryz.ntmps187
    go_upto_region 3 with fail
    rw [← hg]
    clear hg ci
    generalize w.alloc (.cells (dirV d) 67) = w1 at *
    have RG : Hid (∀ (S' : Sto) (w' : World), Held W (SHas W m b St S' A) w w' G [(g, .cells (dirV d) 67)] → w'.rangeAt g 0 (dirV d).toList) := fun S' w' O j v hv => by
      rw [cell_of_block (O.at g (.cells (dirV d) 67) (by simp)), Nat.zero_add, ← Array.getElem?_toList]; exact hv
    have O1 := hide ((unhide O0).drew (unhide T0))
    refine wp_region_noPanic ?_
    refine wp_region_held_drew (S := fun w' => w'.rangeAt b 1329 (tabV S.k).toList ∧ w'.rangeAt g 0 (dirV d).toList) (by kernel_rfl) ⟨(unhide O1).st.rep.rk, unhide RG _ _ (unhide O1)⟩ (fun hHeld => ?_)
    clear O0
    generalize w1.drew = w2 at *
    refine take_at 0 10 (v := ?_) rfl rfl (by kernel_rfl) (by kernel_rfl) (by kernel_rfl) (Or.inl ⟨by rfl, ?_⟩) hHeld ?_
    rotate_left
    · intro w hSw; go_simp; with_reducible rfl
    simp only [Act.put, List.setIfInBounds_toArray, List.set_cons_zero, List.set_cons_succ]
    refine take_at 1 11 (v := ?_) rfl rfl (by kernel_rfl) (by kernel_rfl) (by kernel_rfl) (Or.inl ⟨by rfl, ?_⟩) hHeld ?_
    rotate_left
    · intro w hSw; go_simp; with_reducible rfl
    simp only [Act.put, List.setIfInBounds_toArray, List.set_cons_zero, List.set_cons_succ]
    refine take_at 2 12 (v := ?_) rfl rfl (by kernel_rfl) (by kernel_rfl) (by kernel_rfl) (Or.inl ⟨by rfl, ?_⟩) hHeld ?_
    rotate_left
    · intro w hSw; go_simp; with_reducible rfl
    simp only [Act.put, List.setIfInBounds_toArray, List.set_cons_zero, List.set_cons_succ]
    refine take_at 3 13 (v := ?_) rfl rfl (by kernel_rfl) (by kernel_rfl) (by kernel_rfl) (Or.inl ⟨by rfl, ?_⟩) hHeld ?_
    rotate_left
    · intro w hSw; go_simp; with_reducible rfl
    simp only [Act.put, List.setIfInBounds_toArray, List.set_cons_zero, List.set_cons_succ]
    refine take_at 4 14 (v := ?_) rfl rfl (by kernel_rfl) (by kernel_rfl) (by kernel_rfl) (Or.inl ⟨by rfl, ?_⟩) hHeld ?_
    rotate_left
    · intro w hSw; go_simp; with_reducible rfl
    simp only [Act.put, List.setIfInBounds_toArray, List.set_cons_zero, List.set_cons_succ]
    refine take_at 5 15 rfl rfl (by kernel_rfl) (by kernel_rfl) (by kernel_rfl) (yieldsIf_load_mid (by rfl) 66 _ rfl b 1329 rfl (tabV S.k).toList _ (fun w' h => h.1) Tryz.underlying66 rfl (by rw [Array.length_toList]; exact s147)) hHeld ?_
    simp only [Act.put, List.setIfInBounds_toArray, List.set_cons_zero, List.set_cons_succ]
    refine take_at 6 16 rfl rfl (by kernel_rfl) (by kernel_rfl) (by kernel_rfl) (yieldsIf_load_mid (by rfl) 67 _ rfl g 0 rfl (dirV d).toList _ (fun w' h => h.2) Tryz.underlying67 rfl (by rw [Array.length_toList]; exact s8)) hHeld ?_
    simp only [Act.put, List.setIfInBounds_toArray, List.set_cons_zero, List.set_cons_succ]
    refine take_at 7 17 (v := ?_) rfl rfl (by kernel_rfl) (by kernel_rfl) (by kernel_rfl) (Or.inl ⟨by rfl, ?_⟩) hHeld ?_
    rotate_left
    · intro w hSw; go_simp; with_reducible rfl
    simp only [Act.put, List.setIfInBounds_toArray, List.set_cons_zero, List.set_cons_succ]
    refine take_at 8 18 (v := ?_) rfl rfl (by kernel_rfl) (by kernel_rfl) (by kernel_rfl) (Or.inl ⟨by rfl, ?_⟩) hHeld ?_
    rotate_left
    · intro w hSw; go_simp; with_reducible rfl
    simp only [Act.put, List.setIfInBounds_toArray, List.set_cons_zero, List.set_cons_succ]
    refine wpAnyH_ready (rs := [9]) (by kernel_rfl) (by simp) ?_
    refine AllReadyH.cons rfl (fun K hK => ?_) AllReadyH.nil
    refine (if_pos (by rfl)).mpr ?_
    have TB : w2.there b 1174 (tabV S.k).size := by rw [tabV_size]; exact Blk.there (unhide O1).st.rep _ _ (by decide)
    refine wp_store_mid 66 (.tmp 18) (.tmp 15) rfl b 1174 (tabV S.k) rfl rfl TB s147 (tabV_one _) ?_
    have R1 := (unhide O1).st.rep.putB S.k
    have O2 := hide (Held.turn (unhide O1) (St' := SHas W m b St ⟨S.F, S.w, S.k, S.d, S.k, S.is⟩ A) (w' := w2.setCells b 1174 (tabV S.k).toList) ((unhide O1).st.turned M R1 (keeps_cells b _ _ _)))
    clear hHeld TB R1
    refine hK.out _ _ ⟨(unhide O2).st.rep.rk, unhide RG _ _ (unhide O2)⟩ (fun hNew => ?_)
    have hHeld := hNew
    clear hK K O1 hNew
    generalize w2.setCells b 1174 _ = w3 at *
    refine take_at 10 19 (v := ?_) rfl rfl (by kernel_rfl) (by kernel_rfl) (by kernel_rfl) (Or.inl ⟨by rfl, ?_⟩) hHeld ?_
    rotate_left
    · intro w hSw; go_simp; with_reducible rfl
    simp only [Act.put, List.setIfInBounds_toArray, List.set_cons_zero, List.set_cons_succ]
    refine take_at 11 20 (v := ?_) rfl rfl (by kernel_rfl) (by kernel_rfl) (by kernel_rfl) (Or.inl ⟨by rfl, ?_⟩) hHeld ?_
    rotate_left
    · intro w hSw; go_simp; with_reducible rfl
    simp only [Act.put, List.setIfInBounds_toArray, List.set_cons_zero, List.set_cons_succ]
    refine wpAnyH_ready (rs := [12]) (by kernel_rfl) (by simp) ?_
    refine AllReadyH.cons rfl (fun K hK => ?_) AllReadyH.nil
    refine (if_pos (by rfl)).mpr ?_
    have TB : w3.there b 1321 (dirV d).size := by rw [dirV_size]; exact Blk.there (unhide O2).st.rep _ _ (by decide)
    refine wp_store_mid 67 (.tmp 20) (.tmp 16) rfl b 1321 (dirV d) rfl rfl TB s8 (dirV_one _) ?_
    have R1 := (unhide O2).st.rep.putD d
    have O3 := hide (Held.turn (unhide O2) (St' := SHas W m b St ⟨S.F, S.w, S.k, d, S.k, S.is⟩ A) (w' := w3.setCells b 1321 (dirV d).toList) ((unhide O2).st.turned M R1 (keeps_cells b _ _ _)))
    clear hHeld TB R1
    refine hK.out _ _ ⟨(unhide O3).st.rep.rk, unhide RG _ _ (unhide O3)⟩ (fun hNew => ?_)
    clear hK K O2 hNew
    generalize w3.setCells b 1321 _ = w4 at *
    refine wpAnyH_done (by kernel_rfl) ?_ _
    refine NoPanic.normal ?_
    have CV := hide (unhide CU _ _ (unhide O3).st)
    clear CU RG s147 s8
    go_wp2_with fail
    refine (unhide CV).mono ?_
    rintro e w5 ⟨rfl, h1, h2⟩
    have O4 := hide ((unhide O3).call (St' := SHas W m b St (Sto.mk S.F S.w S.k d S.k S.is).unmarkS A) h1 h2)
    clear h1 h2 CV O3
    go_wp2_with fail
    go_ret
    exact (unhide O4).done (SHas.stay M b _ _) _

end Go.Proofs.YtiafhcgaikapcaaGreat


/-
  A store just made: its cells, out of its parts.
-/
namespace Go.Proofs.YtiafhcgaikapcaaGreat
open Go.ChangeShapes Go.WideShapes Go.ChangeAt Go.RowKit Go.Joins
set_option maxRecDepth 100000
set_option linter.unusedVariables false
set_option linter.unusedSimpArgs false

/-! ### an aggregate filled part by part, over any program -/
def putV (f : Nat → Value) (off : Nat) (vs : List Value) : Nat → Value := fun i => if off ≤ i ∧ i < off + vs.length then vs.getD (i - off) undef else f i
theorem fold_putL (N : Nat) (off : Nat) (vs : List Value) : ∀ (f : Nat → Value) (k : Nat), List.foldl (fun (cs : Array Value) (x : Value × Nat) => cs.setIfInBounds (off + x.2) x.1) (tab N f) (vs.zipIdx k) = tab N (putV f (off + k) vs) := by
  induction vs with
  | nil =>
    intro f k
    refine tab_ext fun i _ => ?_
    unfold putV; rw [if_neg (by simp only [List.length_nil]; omega)]
  | cons v r ih =>
    intro f k
    rw [List.zipIdx_cons, List.foldl_cons, tab_set, ih]
    refine tab_ext fun i _ => ?_
    unfold putV
    simp only [List.length_cons]
    by_cases h1 : i = off + k
    · subst h1
      rw [if_neg (by omega), if_pos (by omega), upd_same, Nat.sub_self]; rfl
    · rw [upd_other _ _ _ _ h1]
      by_cases h2 : off + (k + 1) ≤ i ∧ i < off + (k + 1) + r.length
      · rw [if_pos h2, if_pos (by omega), show i - (off + k) = (i - (off + (k + 1))) + 1 by omega]; rfl
      · rw [if_neg h2, if_neg (by omega)]
theorem fold_put (N : Nat) (f : Nat → Value) (off : Nat) (vs : Array Value) : Array.foldl (fun (cs : Array Value) (x : Value × Nat) => match x with | (c, j) => cs.setIfInBounds (off + j) c) (tab N f) vs.zipIdx = tab N (putV f off vs.toList) := by
  rw [← Array.foldl_toList, Array.toList_zipIdx]
  exact fold_putL N off vs.toList f 0
theorem fill_step (place : Nat → Option (Nat × Nat)) (N : Nat) (f : Nat → Value) (i : Nat) (v : Value) (rest : List (Nat × Value)) (off size : Nat) (hp : place i = some (off, size)) (hs : v.cells.size = size) (hN : off + size ≤ N) :
    Instr.fill place (tab N f) ((i, v) :: rest) = Instr.fill place (tab N (putV f off v.cells.toList)) rest := by
  rw [Instr.fill, hp]
  show (if (decide (v.cells.size ≠ size) || decide (off + v.cells.size > (tab N f).size)) = true then none else _) = _
  rw [if_neg (by rw [tab_size, hs]; simp; omega), fold_put]

def zstF (i : Nat) : Value := if i = 0 then .pointer none else if i < 1476 then .int .i64 0 else .bool false
theorem zero_st : (Tryz.prog.info? 146).map (·.zero) = some (some (.agg (tab 1477 zstF))) := by kernel_rfl
def placesS : List (Nat × Nat) := [(0, 1), (1, 1026), (1027, 147), (1174, 147), (1321, 8), (1329, 147), (1476, 1)]
theorem places_st : ∃ fs, Tryz.prog.underlying 146 = some (.struct fs) ∧ fs.toList.mapM (fun f => (Tryz.prog.info? f.type).map fun i => (f.offset, i.size)) = some placesS := ⟨_, Tryz.underlying146, by kernel_rfl⟩
theorem frV_get (F : Fr) (j : Nat) (h : j < 1026) : (frV F).toList.getD j undef = frF F j := by
  have : (frV F)[j]? = some (frF F j) := tab_get _ _ _ h
  rw [List.getD_eq_getElem?_getD, Array.getElem?_toList, this]; rfl
theorem built_store (m : Nat) (F : Fr) (t : Nat → En) (d : Nat → Int) :
    Tryz.prog.built 146 [(0, .pointer (some ⟨m, 0, none⟩)), (1, .agg (frV F)), (2, .agg (tabV t)), (3, .agg (tabV t)), (4, .agg (dirV d))] = some (tab 1477 (stF m ⟨F, t, t, d, fun _ => ze, false⟩)) := by
  obtain ⟨fs, hu, hp⟩ := places_st
  have hz := zero_st
  unfold Program.built
  cases hi : Tryz.prog.info? 146 with
  | none => rw [hi] at hz; cases hz
  | some it =>
    rw [hi] at hz
    have hz' : it.zero = some (.agg (tab 1477 zstF)) := by simpa using hz
    rw [hu]
    simp only [hz', hp]
    show Instr.fill (fun x => placesS.toArray[x]?) (tab 1477 zstF) _ = _
    rw [fill_step (fun x => placesS.toArray[x]?) 1477 _ 0 (.pointer (some ⟨m, 0, none⟩)) _ 0 1 rfl rfl (by decide), fill_step (fun x => placesS.toArray[x]?) 1477 _ 1 (.agg (frV F)) _ 1 1026 rfl (frV_size F) (by decide), fill_step (fun x => placesS.toArray[x]?) 1477 _ 2 (.agg (tabV t)) _ 1027 147 rfl (tabV_size t) (by decide),
      fill_step (fun x => placesS.toArray[x]?) 1477 _ 3 (.agg (tabV t)) _ 1174 147 rfl (tabV_size t) (by decide), fill_step (fun x => placesS.toArray[x]?) 1477 _ 4 (.agg (dirV d)) _ 1321 8 rfl (dirV_size d) (by decide), Instr.fill]
    refine congrArg some (tab_ext fun i hi => ?_)
    show putV (putV (putV (putV (putV zstF 0 [.pointer (some ⟨m, 0, none⟩)]) 1 (frV F).toList) 1027 (tabV t).toList) 1174 (tabV t).toList) 1321 (dirV d).toList i = _
    unfold putV stF
    rw [Array.length_toList, Array.length_toList, Array.length_toList, frV_size, tabV_size, dirV_size]
    simp only [List.length_cons, List.length_nil]
    by_cases h0 : i = 0
    · subst h0; rfl
    · rw [if_neg h0]
      by_cases h1 : i < 1027
      · rw [if_pos h1, if_neg (by omega), if_neg (by omega), if_neg (by omega), if_pos (by omega), frV_get _ _ (by omega)]
      · rw [if_neg h1]
        by_cases h2 : i < 1174
        · rw [if_pos h2, if_neg (by omega), if_neg (by omega), if_pos (by omega), tabV_get _ _ (by omega)]
        · rw [if_neg h2]
          by_cases h3 : i < 1321
          · rw [if_pos h3, if_neg (by omega), if_pos (by omega), tabV_get _ _ (by omega)]
          · rw [if_neg h3]
            by_cases h4 : i < 1329
            · rw [if_pos h4, if_pos (by omega), dirV_get _ _ (by omega)]
            · rw [if_neg h4, if_neg (by omega), if_neg (by omega), if_neg (by omega), if_neg (by omega), if_neg (by omega)]
              unfold zstF
              rw [if_neg h0]
              by_cases h5 : i < 1476
              · rw [if_pos h5, if_pos h5]
                unfold fl3 ze
                simp
              · rw [if_neg h5, if_neg h5]
theorem sto_one (m : Nat) (S : Sto) : (tab 1477 (stF m S)).all (·.oneCell') = true := by
  refine Array.all_eq_true_iff_forall_mem.2 fun v hv => ?_
  obtain ⟨i, hi, rfl⟩ := Array.mem_iff_getElem.1 hv
  rw [tab_size] at hi
  have : (tab 1477 (stF m S))[i]? = some (stF m S i) := tab_get 1477 _ i hi
  rw [Array.getElem?_eq_getElem (by rw [tab_size]; exact hi)] at this
  have e := Option.some.inj this
  rw [e]
  unfold stF
  repeat' split
  all_goals first | rfl | exact frF_one _ _
theorem s1477 (m : Nat) (S : Sto) : (Tryz.prog.info? 146).map (·.size) = some (tab 1477 (stF m S)).size := by rw [tab_size]; kernel_rfl

end Go.Proofs.YtiafhcgaikapcaaGreat


/-
  claim: all lines that are named are taken, or one can not be.
-/
namespace Go.Proofs.YtiafhcgaikapcaaGreat
open Go.ChangeShapes Go.WideShapes Go.ChangeAt Go.RowKit Go.Joins
set_option maxRecDepth 10000
set_option linter.unusedVariables false
set_option linter.unusedSimpArgs false

theorem dirTo_split (d : Nat → Int) (j : Nat) (h : j ≤ 8) : ∃ r, dirTo d 8 = dirTo d j ++ r := by
  obtain ⟨n, hn⟩ : ∃ n, 8 = j + n := ⟨8 - j, by omega⟩
  unfold dirTo
  rw [hn, List.range_add, List.map_append]
  exact ⟨_, rfl⟩
theorem linesTo_split (f : Nat → En) (j : Nat) (h : j ≤ 49) : ∃ r, linesTo f 49 = linesTo f j ++ r := by
  obtain ⟨n, hn⟩ : ∃ n, 49 = j + n := ⟨49 - j, by omega⟩
  unfold linesTo
  rw [hn, List.range_add, List.filter_append, List.map_append]
  exact ⟨_, rfl⟩
theorem shas_drewN {W w : World} {m b : Nat} {St : Mm → World → (Nat → Prop) → Prop} {S : Sto} {A : Mm} {G : Nat → Prop} (M : MemL W m St) (h : SHas W m b St S A w G) (n : Nat) : SHas W m b St S A (w.drewN n) G := (SHas.stay M b S A).bl _ _ _ h ⟨rfl, rfl, rfl, Nat.le_refl _, fun _ _ _ => rfl⟩
/-- Behind claim: all are taken; or not. -/
def Claimed (St' : Sto → World → (Nat → Prop) → Prop) (S : Sto) (w : World) (G : Nat → Prop) (e : Ending) (w' : World) : Prop :=
  e = .returned (.bool (S.F.takesB (claimL S.w S.d))) ∧ ∃ F, F.ok ∧ St' (S.withF F) w' G ∧ Same G w w' ∧ (S.F.takesB (claimL S.w S.d) = true → F = S.F.takeL (claimL S.w S.d))
set_option maxHeartbeats 2000000 in
theorem claim_any {W w : World} {m b : Nat} {St : Mm → World → (Nat → Prop) → Prop} {S : Sto} {A : Mm} {G : Nat → Prop} (M : MemL W m St) (h : SHas W m b St S A w G) (hS : S.F.ok) :
    Calls Tryz.prog 128 #[.pointer (some ⟨b, 0, none⟩)] w (Claimed (fun S' => SHas W m b St S' A) S w G) := by
  have RD : Hid (w.rangeAt b 1321 (dirV S.d).toList) := h.rep.rd
  have HXD : Hid (∀ (U : World) (j : Nat), j < 8 → Sem.run Tryz.prog (Instr.index 67 (.agg (dirV S.d)) (.int .i64 (j : Int))) U = .ok (.int .i64 (S.d j)) U) := fun U j hj => run_index_dir U S.d j hj
  have s8' : (Tryz.prog.info? 67).map (·.size) = some (dirV S.d).toList.length := by rw [Array.length_toList]; exact s8_dir _
  have H0 : Hid (SHas W m b St (S.withF (S.F.takeL (dirTo S.d 0))) A w G) := h
  clear h
  generalize dirV S.d = DV at *
  go_enter Tryz.func128, Tryz.ntmps128
  go_wp2_with (with_reducible refine wpList_load_mid (by with_unfolding_all rfl) 67 _ (by with_unfolding_all rfl) b 1321 (by with_unfolding_all rfl) DV.toList _ (unhide RD) Tryz.underlying67 (by with_unfolding_all rfl) s8' ?_)
  go_loopw [4, 11] (fun _ c wr => ∃ j : Nat, j ≤ 8 ∧ c = .int .i64 j ∧ S.F.takesB (dirTo S.d j) = true ∧ SHas W m b St (S.withF (S.F.takeL (dirTo S.d j))) A wr G ∧ Same G w wr) (fun _ c _ => 8 - (intOf c).toNat)
  case atStart => exact ⟨0, by omega, rfl, rfl, unhide H0, fun _ _ => rfl⟩
  case round =>
    clear H0 RD
    obtain ⟨j, hj, rfl, hb, hh, hs⟩ := hrel
    have HH := hide hh
    have HB := hide hb
    have HSM := hide hs
    clear hh hb hs
    by_cases hlt : j < 8
    · have hix := fun U => unhide HXD U j hlt
      have CT := hide (stake_any (unhide HH).rep.frs (takeL_ok (dirTo S.d j) hS) (S.d j))
      have EA : Hid ((S.F.takeL (dirTo S.d j)).turnA (S.d j) 0 1 = S.F.takeL (dirTo S.d (j + 1))) := by show _ = _; rw [dirTo_next, takeL_snoc]
      have EB : Hid (S.F.takesB (dirTo S.d (j + 1)) = decide ((S.F.takeL (dirTo S.d j)).turnE (S.d j) 0 = 0)) := by show _ = _; rw [dirTo_next, takesB_snoc, unhide HB, Bool.true_and]
      have CT2 := hide (unhide CT)
      obtain ⟨E, hE⟩ : ∃ E, E = (S.F.takeL (dirTo S.d j)).turnE (S.d j) 0 := ⟨_, rfl⟩
      have CT3 : Hid (Calls Tryz.prog 180 #[.pointer (some ⟨b, 1, none⟩), .int .i64 (S.d j)] wr (SWent m (S.withF (S.F.takeL (dirTo S.d j))) wr b (S.F.takeL (dirTo S.d (j + 1))) (.int .i64 E))) := by
        have := unhide CT
        rw [hE, ← unhide EA]; exact this
      rw [← hE] at EB
      clear CT CT2 hE EA
      by_cases hz : E = 0
      · subst hz
        have HB2 : Hid (S.F.takesB (dirTo S.d (j + 1)) = true) := by show _ = _; rw [unhide EB]; rfl
        generalize S.d j = z at *
        go_wp2_with fail
        refine (unhide CT3).mono ?_
        intro e wn hw
        obtain ⟨rfl, h1, h2⟩ := (unhide HH).went M hw
        have H1 : Hid (SHas W m b St (S.withF (S.F.takeL (dirTo S.d (j + 1)))) A wn G) := h1
        have H2 := hide ((unhide HSM).trans h2)
        clear hw h1 h2 CT3 HH HSM hix
        go_wp2_with fail
        go_roundw
        case rel => exact ⟨j + 1, by omega, by go_num, unhide HB2, unhide H1, unhide H2⟩
        case measure => simp [intOf]; omega
      · have hEb : (E != 0) = true := by simpa using hz
        have HF : Hid (S.F.takesB (claimL S.w S.d) = false) := by
          have h1 : S.F.takesB (dirTo S.d (j + 1)) = false := by rw [unhide EB]; simpa using hz
          obtain ⟨r, hr⟩ := dirTo_split S.d (j + 1) (by omega)
          show _ = _
          unfold claimL; rw [hr, List.append_assoc]; exact takesB_part _ _ _ h1
        have hfo := hide (takeL_ok (dirTo S.d (j + 1)) hS)
        clear hz
        generalize S.d j = z at *
        go_wp2_with fail
        refine (unhide CT3).mono ?_
        intro e wn hw
        obtain ⟨rfl, h1, h2⟩ := (unhide HH).went M hw
        have H1 : Hid (SHas W m b St (S.withF (S.F.takeL (dirTo S.d (j + 1)))) A wn G) := h1
        have H2 := hide ((unhide HSM).trans h2)
        clear hw h1 h2 CT3 HH HSM hix
        go_wp2_with fail
        go_ret
        exact ⟨by rw [unhide HF]; rfl, _, unhide hfo, unhide H1, unhide H2, fun q => by rw [unhide HF] at q; cases q⟩
    · have e8 : j = 8 := by omega
      rw [e8] at HH HB
      have HL : Hid (SHas W m b St (S.withF (S.F.takeL (dirTo S.d 8 ++ linesTo S.w 0))) A wr G) := by show SHas _ _ _ _ _ _ _ _; rw [linesTo_zero, List.append_nil]; exact unhide HH
      have HM : Hid (S.F.takesB (dirTo S.d 8 ++ linesTo S.w 0) = true) := by show _ = _; rw [linesTo_zero, List.append_nil]; exact unhide HB
      have RW : Hid (wr.rangeAt b 1027 (tabV S.w).toList) := (unhide HH).rep.rw
      have HX : Hid (∀ (U : World) (j : Nat), j < 49 → Sem.run Tryz.prog (Instr.index 66 (.agg (tabV S.w)) (.int .i64 (j : Int))) U = .ok (.agg (ev (S.w j))) U) := fun U j hj => by
        rw [← rowE_at 49 S.w j hj]; exact run_index_en _ 49 Tryz.underlying66 U _ (rowE_len _ _) .i64 j hj
      clear HXD s8' HH HB
      go_upto_region 7 with fail
      clear hlt hj e8
      generalize (j : Int) = last at *
      go_wp2_with (with_reducible refine wpList_load_tab (by with_unfolding_all rfl) _ (by with_unfolding_all rfl) b 1027 (by with_unfolding_all rfl) S.w (unhide RW) ?_)
      clear RW
      go_loopw [6, 25] (fun _ c wr => ∃ j : Nat, j ≤ 49 ∧ c = .int .i64 j ∧ S.F.takesB (dirTo S.d 8 ++ linesTo S.w j) = true ∧ SHas W m b St (S.withF (S.F.takeL (dirTo S.d 8 ++ linesTo S.w j))) A wr G ∧ Same G w wr) (fun _ c _ => 49 - (intOf c).toNat)
      case atStart => exact ⟨0, by omega, rfl, unhide HM, unhide HL, unhide HSM⟩
      case round =>
        clear HL HM HSM
        obtain ⟨j, hj, rfl, hb, hh, hs⟩ := hrel
        have HH := hide hh
        have HB := hide hb
        have HSM := hide hs
        clear hh hb hs
        by_cases hlt : j < 49
        · have hix := fun U => unhide HX U j hlt
          obtain ⟨k, v, l, hx⟩ : ∃ k v l, S.w j = ⟨k, v, l⟩ := ⟨_, _, _, rfl⟩
          have HI := hide (linesTo_in S.w j)
          have HO := hide (linesTo_out S.w j)
          rw [hx] at hix HI HO
          have hi2 : ∀ U : World, Sem.run Tryz.prog (Instr.index 66 (.agg (tabV S.w)) (.int .i64 (j : Int))) U = .ok (.agg #[.int .i64 k, .int .i64 v, .int .i64 l]) U := hix
          have TA := hide (SHas.stay M b (S.withF (S.F.takeL (dirTo S.d 8 ++ linesTo S.w j))) A)
          have O1 := hide ((Held.start (unhide TA) (unhide HH)).alloc (unhide TA) (.cells #[.int .i64 k, .int .i64 v, .int .i64 l] 41))
          clear hix hx HH
          by_cases hk : k = 0
          · have HE := hide (unhide HO hk)
            subst hk
            clear HI HO
            rw [← unhide HE] at HB O1
            have H1 := hide ((unhide O1).done (SHas.stay M b _ _) (.bool true)).2.1
            have H2 : Hid (Same G w (wr.alloc (.cells #[.int .i64 0, .int .i64 v, .int .i64 l] 41))) := (unhide HSM).trans (unhide O1).2.2
            clear HSM O1 TA HE
            have c0 : (wr.alloc (.cells #[.int .i64 0, .int .i64 v, .int .i64 l] 41)).cell? ⟨wr.heap.size, 0, none⟩ = some (.int .i64 0) := by rw [cell_of_block (heap_new wr _)]; rfl
            go_upto_region 10 with fail
            generalize wr.alloc (.cells #[.int .i64 0, .int .i64 v, .int .i64 l] 41) = wa at *
            go_quiet (fail)
            go_wp2_with fail
            go_roundw
            case rel => exact ⟨j + 1, by omega, by go_num, unhide HB, shas_drewN M (unhide H1) _, unhide H2⟩
            case measure => simp [intOf]; omega
          · have HE := hide (unhide HI hk)
            have hk1 : (k != 0) = true := by simpa using hk
            have fo := hide (takeL_ok (dirTo S.d 8 ++ linesTo S.w j) hS)
            have EA : Hid ((S.F.takeL (dirTo S.d 8 ++ linesTo S.w j)).turnA l 0 1 = S.F.takeL (dirTo S.d 8 ++ linesTo S.w (j + 1))) := by show _ = _; rw [unhide HE, ← List.append_assoc, takeL_snoc]
            obtain ⟨E, hE⟩ : ∃ E, E = (S.F.takeL (dirTo S.d 8 ++ linesTo S.w j)).turnE l 0 := ⟨_, rfl⟩
            have EB : Hid (S.F.takesB (dirTo S.d 8 ++ linesTo S.w (j + 1)) = decide (E = 0)) := by show _ = _; rw [unhide HE, ← List.append_assoc, takesB_snoc, unhide HB, Bool.true_and, hE]
            have CT : Hid (∀ wx, SHas W m b St (S.withF (S.F.takeL (dirTo S.d 8 ++ linesTo S.w j))) A wx (fun k_1 => G k_1 ∨ ∃ o, (k_1, o) ∈ [(wr.heap.size, Obj.cells #[.int .i64 k, .int .i64 v, .int .i64 l] 41)]) → Calls Tryz.prog 180 #[.pointer (some ⟨b, 1, none⟩), .int .i64 l] wx (SWent m (S.withF (S.F.takeL (dirTo S.d 8 ++ linesTo S.w j))) wx b (S.F.takeL (dirTo S.d 8 ++ linesTo S.w (j + 1))) (.int .i64 E))) := fun wx hx => by
              have := stake_any hx.rep.frs (unhide fo) l
              rw [hE, ← unhide EA]; exact this
            have HF : Hid (E ≠ 0 → S.F.takesB (claimL S.w S.d) = false) := fun hz => by
              have h1 : S.F.takesB (dirTo S.d 8 ++ linesTo S.w (j + 1)) = false := by rw [unhide EB]; simpa using hz
              obtain ⟨r, hr⟩ := linesTo_split S.w (j + 1) (by omega)
              unfold claimL linesL; rw [hr, ← List.append_assoc]; exact takesB_part _ _ _ h1
            have HB2 : Hid (E = 0 → S.F.takesB (dirTo S.d 8 ++ linesTo S.w (j + 1)) = true) := fun hz => by rw [unhide EB, hz]; rfl
            have fo2 := hide (takeL_ok (dirTo S.d 8 ++ linesTo S.w (j + 1)) hS)
            obtain ⟨g, hg⟩ : ∃ g, g = wr.heap.size := ⟨_, rfl⟩
            rw [← hg] at CT O1
            clear HI HO HE hE EA EB fo HB hk
            go_upto_region 10 with fail
            rw [← hg]
            clear hg
            generalize wr.alloc (.cells #[.int .i64 k, .int .i64 v, .int .i64 l] 41) = wa at *
            have O2 := hide ((unhide O1).drew (unhide TA))
            have cg : ∀ (S' : Sto) (wx : World), Held W (SHas W m b St S' A) wr wx G [(g, Obj.cells #[.int .i64 k, .int .i64 v, .int .i64 l] 41)] → wx.cell? ⟨g, 0, none⟩ = some (.int .i64 k) ∧ wx.cell? ⟨g, 2, none⟩ = some (.int .i64 l) := fun S' wx O => by
              have kg := O.at g (.cells #[.int .i64 k, .int .i64 v, .int .i64 l] 41) (by simp)
              exact ⟨by rw [cell_of_block kg]; rfl, by rw [cell_of_block kg]; rfl⟩
            refine wp_region_noPanic ?_
            refine wp_region_held_drew (S := fun w' => w'.cell? ⟨g, 0, none⟩ = some (.int .i64 k) ∧ w'.cell? ⟨g, 2, none⟩ = some (.int .i64 l)) (by kernel_rfl) (cg _ _ (unhide O2)) (fun hHeld => ?_)
            clear O1
            generalize wa.drew = wd at *
            refine take_at 0 28 (v := ?_) rfl rfl (by kernel_rfl) (by kernel_rfl) (by kernel_rfl) (Or.inl ⟨by rfl, ?_⟩) hHeld ?_
            rotate_left
            · intro w hSw; go_simp; with_reducible rfl
            simp only [Act.put, List.setIfInBounds_toArray, List.set_cons_zero, List.set_cons_succ]
            refine take_at 1 29 (v := ?_) rfl rfl (by kernel_rfl) (by kernel_rfl) (by kernel_rfl) (Or.inl ⟨by rfl, ?_⟩) hHeld ?_
            rotate_left
            · intro w hSw; obtain ⟨s1, s2⟩ := hSw; go_simp; with_reducible rfl
            simp only [Act.put, List.setIfInBounds_toArray, List.set_cons_zero, List.set_cons_succ]
            refine take_at 2 30 (v := ?_) rfl rfl (by kernel_rfl) (by kernel_rfl) (by kernel_rfl) (Or.inl ⟨by rfl, ?_⟩) hHeld ?_
            rotate_left
            · intro w hSw; go_simp; with_reducible rfl
            simp only [Act.put, List.setIfInBounds_toArray, List.set_cons_zero, List.set_cons_succ]
            refine take_at 3 31 (v := ?_) rfl rfl (by kernel_rfl) (by kernel_rfl) (by kernel_rfl) (Or.inl ⟨by rfl, ?_⟩) hHeld ?_
            rotate_left
            · intro w hSw; go_simp; with_reducible rfl
            simp only [Act.put, List.setIfInBounds_toArray, List.set_cons_zero, List.set_cons_succ]
            refine take_at 4 32 (v := ?_) rfl rfl (by kernel_rfl) (by kernel_rfl) (by kernel_rfl) (Or.inl ⟨by rfl, ?_⟩) hHeld ?_
            rotate_left
            · intro w hSw; go_simp; with_reducible rfl
            simp only [Act.put, List.setIfInBounds_toArray, List.set_cons_zero, List.set_cons_succ]
            refine take_at 5 33 (v := ?_) rfl rfl (by kernel_rfl) (by kernel_rfl) (by kernel_rfl) (Or.inl ⟨by rfl, ?_⟩) hHeld ?_
            rotate_left
            · intro w hSw; go_simp; with_reducible rfl
            simp only [Act.put, List.setIfInBounds_toArray, List.set_cons_zero, List.set_cons_succ]
            refine take_at 6 34 (v := ?_) rfl rfl (by kernel_rfl) (by kernel_rfl) (by kernel_rfl) (Or.inl ⟨by rfl, ?_⟩) hHeld ?_
            rotate_left
            · intro w hSw; go_simp; with_reducible rfl
            simp only [Act.put, List.setIfInBounds_toArray, List.set_cons_zero, List.set_cons_succ]
            refine take_at 7 35 (v := ?_) rfl rfl (by kernel_rfl) (by kernel_rfl) (by kernel_rfl) (Or.inl ⟨by rfl, ?_⟩) hHeld ?_
            rotate_left
            · intro w hSw; go_simp; with_reducible rfl
            simp only [Act.put, List.setIfInBounds_toArray, List.set_cons_zero, List.set_cons_succ]
            refine take_at 8 36 (v := ?_) rfl rfl (by kernel_rfl) (by kernel_rfl) (by kernel_rfl) (Or.inl ⟨by rfl, ?_⟩) hHeld ?_
            rotate_left
            · intro w hSw; obtain ⟨s1, s2⟩ := hSw; go_simp; with_reducible rfl
            simp only [Act.put, List.setIfInBounds_toArray, List.set_cons_zero, List.set_cons_succ]
            refine wpAnyH_ready (rs := [9]) (by kernel_rfl) (by simp) ?_
            refine AllReadyH.cons rfl (fun K hK => ?_) AllReadyH.nil
            refine (if_pos (by rfl)).mpr ?_
            go_simp
            refine (unhide CT _ (unhide O2).st).mono ?_
            intro e wn hw
            obtain ⟨rfl, h1, h2⟩ := (unhide O2).st.went M hw
            have O3 := hide ((unhide O2).call (St' := SHas W m b St (S.withF (S.F.takeL (dirTo S.d 8 ++ linesTo S.w (j + 1)))) A) h1 h2)
            go_wp2_with fail
            clear hHeld
            refine hK.out _ _ (cg _ _ (unhide O3)) (fun hNew => ?_)
            have hHeld := hNew
            clear hK K hNew h1 h2 hw O2 TA CT
            refine take_at 10 38 (v := ?_) rfl rfl (by kernel_rfl) (by kernel_rfl) (by kernel_rfl) (Or.inl ⟨by rfl, ?_⟩) hHeld ?_
            rotate_left
            · intro w hSw; go_simp; with_reducible rfl
            simp only [Act.put, List.setIfInBounds_toArray, List.set_cons_zero, List.set_cons_succ]
            refine take_at 11 39 (v := ?_) rfl rfl (by kernel_rfl) (by kernel_rfl) (by kernel_rfl) (Or.inl ⟨by rfl, ?_⟩) hHeld ?_
            rotate_left
            · intro w hSw; go_simp; with_reducible rfl
            simp only [Act.put, List.setIfInBounds_toArray, List.set_cons_zero, List.set_cons_succ]
            refine wpAnyH_done (by kernel_rfl) ?_ _
            refine NoPanic.normal ?_
            have H1 := hide ((unhide O3).done (SHas.stay M b _ _) (.bool true)).2.1
            have H2 := hide ((unhide HSM).trans (unhide O3).2.2)
            clear hHeld O3 HSM cg hi2
            by_cases hz : E = 0
            · have hEb : (E != 0) = false := by simpa using hz
              have HB3 := hide (unhide HB2 hz)
              clear hz
              go_wp2_with fail
              go_roundw
              case rel => exact ⟨j + 1, by omega, by go_num, unhide HB3, unhide H1, unhide H2⟩
              case measure => simp [intOf]; omega
            · have hEb : (E != 0) = true := by simpa using hz
              have HF2 := hide (unhide HF hz)
              clear hz
              go_wp2_with fail
              go_ret
              exact ⟨by rw [unhide HF2]; rfl, _, unhide fo2, unhide H1, unhide H2, fun q => by rw [unhide HF2] at q; cases q⟩
        · obtain rfl : j = 49 := by omega
          have fo := hide (takeL_ok (dirTo S.d 8 ++ linesTo S.w 49) hS)
          go_wp2_with fail
          go_ret
          exact ⟨by rw [show S.F.takesB (claimL S.w S.d) = true from unhide HB]; rfl, _, unhide fo, unhide HH, unhide HSM, fun _ => rfl⟩

end Go.Proofs.YtiafhcgaikapcaaGreat


/-
  Of: a store of what was committed, or an error.
-/
namespace Go.Proofs.YtiafhcgaikapcaaGreat
open Go.ChangeShapes Go.WideShapes Go.ChangeAt Go.RowKit Go.Joins
set_option maxRecDepth 10000
set_option linter.unusedVariables false
set_option linter.unusedSimpArgs false

theorem yieldsIf_build5 {P : Program} {ops : Array Oper} {S : World → Prop} {op : Oper} {a : Act} (hw : Region.wanted op (yielded ops a.tmps) = true) (t : TypeId) (x0 x1 x2 x3 x4 : Operand) (ho : op.op = .build t #[(0, x0), (1, x1), (2, x2), (3, x3), (4, x4)])
    (u0 u1 u2 u3 u4 : Value) (h0 : a.eval x0 = u0) (h1 : a.eval x1 = u1) (h2 : a.eval x2 = u2) (h3 : a.eval x3 = u3) (h4 : a.eval x4 = u4) (cs : Array Value) (hb : P.built t [(0, u0), (1, u1), (2, u2), (3, u3), (4, u4)] = some cs) : YieldsIf P ops S op (.agg cs) a :=
  Or.inl ⟨hw, fun w _ => by
    have h := run_build (P := P) w t #[(0, u0), (1, u1), (2, u2), (3, u3), (4, u4)] cs hb
    unfold execOp
    simp [ho, h0, h1, h2, h3, h4, Sem.run_bind, h]⟩

/-- What Of leaves: a store, or none. -/
def OfPost (W w : World) (m : Nat) (St : Mm → World → (Nat → Prop) → Prop) (F : Fr) (t : Nat → En) (d : Nat → Int) (A : Mm) (G : Nat → Prop) (e : Ending) (w' : World) : Prop :=
  if ofB F t d = true then ∃ b, e = .returned (.tuple #[.pointer (some ⟨b, 0, none⟩), .int .i64 0]) ∧ SHas W m b St (ofS F t d) A w' G ∧ Same G w w'
  else Done (St A) w G (.tuple #[.pointer none, .int .i64 21]) e w'

theorem sof_bad {W w : World} {m : Nat} {St : Mm → World → (Nat → Prop) → Prop} {A : Mm} {G : Nat → Prop} (M : MemL W m St) (h : St A w G) (z : Int) (t : Nat → En) (d : Nat → Int) (hz : z < 0 ∨ (A.n : Int) < z ∨ 1024 < (A.n : Int)) :
    Calls Tryz.prog 63 #[.pointer (some ⟨m, 0, none⟩), .int .i64 z, .agg (tabV t), .agg (dirV d)] w (Done (St A) w G (.tuple #[.pointer none, .int .i64 1])) := by
  have T0 := hide (M.stay A)
  have O0 := hide (((Held.start (unhide T0) h).alloc (unhide T0) (.cells (tabV t) 66)).alloc (unhide T0) (.cells (dirV d) 67))
  have CL := hide (M.lines _ _ A (unhide O0).st)
  have CN := hide (fun (w' : World) => fnew_bad w' z (A.n : Int) hz)
  clear h hz
  generalize tabV t = TV at *
  generalize dirV d = DV at *
  go_enter Tryz.func63, Tryz.ntmps63
  go_wp2_with fail
  refine (unhide CL).mono ?_
  rintro e w1 ⟨rfl, hw1⟩
  subst hw1
  go_wp2_with fail
  refine (unhide CN _).mono ?_
  rintro e w1 ⟨rfl, hw1⟩
  subst hw1
  go_wp2_with fail
  go_ret2
  exact (unhide O0).done (unhide T0) _

set_option maxHeartbeats 4000000 in
theorem sof_any {W w : World} {m : Nat} {St : Mm → World → (Nat → Prop) → Prop} {A : Mm} {G : Nat → Prop} (M : MemL W m St) (h : St A w G) (lo : Nat) (t : Nat → En) (d : Nat → Int) (h1 : lo ≤ A.n) (h2 : A.n ≤ 1024) :
    Calls Tryz.prog 63 #[.pointer (some ⟨m, 0, none⟩), .int .i64 (lo : Int), .agg (tabV t), .agg (dirV d)] w (OfPost W w m St (Fr.new lo A.n) t d A G) := by
  have T0 := hide (M.stay A)
  have O0 := hide (((Held.start (unhide T0) h).alloc (unhide T0) (.cells (tabV t) 66)).alloc (unhide T0) (.cells (dirV d) 67))
  have CL := hide (M.lines _ _ A (unhide O0).st)
  have CN := hide (fun (w' : World) => fnew_any w' lo A.n h1 h2)
  have BS := hide (built_store m (Fr.new lo A.n) t d)
  have s147 := s147_tab t
  have s8 := s8_dir d
  have s1026 : (Tryz.prog.info? 144).map (·.size) = some (frV (Fr.new lo A.n)).size := by rw [frV_size]; exact frsize
  have S1 := hide (sto_one m ⟨Fr.new lo A.n, t, t, d, fun _ => ze, false⟩)
  have FOK := hide (new_ok h1 h2)
  have hsz : (w.alloc (.cells (tabV t) 66)).heap.size = w.heap.size + 1 := by simp
  obtain ⟨g6, hg6⟩ : ∃ g6, g6 = w.heap.size := ⟨_, rfl⟩
  obtain ⟨g7, hg7⟩ : ∃ g7, g7 = g6 + 1 := ⟨_, rfl⟩
  rw [hsz, ← hg6, ← hg7] at O0
  clear h h1 h2
  obtain ⟨TV, hTV⟩ : ∃ TV, TV = tabV t := ⟨_, rfl⟩
  obtain ⟨DV, hDV⟩ : ∃ DV, DV = dirV d := ⟨_, rfl⟩
  rw [← hTV, ← hDV] at O0 BS CL
  rw [← hTV] at s147
  rw [← hDV] at s8
  rw [← hTV, ← hDV]
  clear hTV hDV hsz
  go_enter Tryz.func63, Tryz.ntmps63
  go_wp2_with fail
  refine (unhide CL).mono ?_
  rintro e w1 ⟨rfl, hw1⟩
  subst hw1
  go_wp2_with fail
  rw [← hg6, ← hg7]
  clear hg6 hg7
  generalize (w.alloc (.cells TV 66)).alloc (.cells DV 67) = w1 at *
  refine (unhide CN _).mono ?_
  rintro e w2 ⟨fb, rfl, hf, hk, hfs⟩
  have O1 := hide ((unhide O0).keeps (unhide T0) hk)
  have HF := hide hf
  clear hf hk hfs O0 CN CL
  go_upto_region 4 with fail
  have O2 := hide ((unhide O1).drew (unhide T0))
  have HF2 : Hid (FRep w2.drew fb (Fr.new lo A.n)) := unhide HF
  clear O1 HF
  have RT : w2.drew.rangeAt g6 0 TV.toList := fun j v hv => by rw [cell_of_block ((unhide O2).at g6 (.cells TV 66) (by simp)), Nat.zero_add, ← Array.getElem?_toList]; exact hv
  have RD : w2.drew.rangeAt g7 0 DV.toList := fun j v hv => by rw [cell_of_block ((unhide O2).at g7 (.cells DV 67) (by simp)), Nat.zero_add, ← Array.getElem?_toList]; exact hv
  have RF : w2.drew.rangeAt fb 0 (frV (Fr.new lo A.n)).toList := fun j v hv => by rw [cell_of_block (unhide HF2), Nat.zero_add, ← Array.getElem?_toList]; exact hv
  refine wp_region_noPanic ?_
  refine wp_region_held_drew (S := fun w' => w'.rangeAt g6 0 TV.toList ∧ w'.rangeAt g7 0 DV.toList ∧ w'.rangeAt fb 0 (frV (Fr.new lo A.n)).toList) (by kernel_rfl) ⟨RT, RD, RF⟩ (fun hHeld => ?_)
  generalize w2.drew = w3 at *
  clear HF2
  refine take_at 0 22 (v := ?_) rfl rfl (by kernel_rfl) (by kernel_rfl) (by kernel_rfl) (Or.inl ⟨by rfl, ?_⟩) hHeld ?_
  rotate_left
  · intro w hSw; go_simp; with_reducible rfl
  simp only [Act.put, List.setIfInBounds_toArray, List.set_cons_zero, List.set_cons_succ]
  refine take_at 1 23 (v := ?_) rfl rfl (by kernel_rfl) (by kernel_rfl) (by kernel_rfl) (Or.inl ⟨by rfl, ?_⟩) hHeld ?_
  rotate_left
  · intro w hSw; go_simp; with_reducible rfl
  simp only [Act.put, List.setIfInBounds_toArray, List.set_cons_zero, List.set_cons_succ]
  refine take_at 2 24 (v := ?_) rfl rfl (by kernel_rfl) (by kernel_rfl) (by kernel_rfl) (Or.inl ⟨by rfl, ?_⟩) hHeld ?_
  rotate_left
  · intro w hSw; go_simp; with_reducible rfl
  simp only [Act.put, List.setIfInBounds_toArray, List.set_cons_zero, List.set_cons_succ]
  refine take_at 3 25 rfl rfl (by kernel_rfl) (by kernel_rfl) (by kernel_rfl) (yieldsIf_load_mid (by rfl) 144 _ rfl fb 0 rfl (frV (Fr.new lo A.n)).toList _ (fun w' h => h.2.2) Tryz.underlying144 rfl (by rw [Array.length_toList]; exact s1026)) hHeld ?_
  simp only [Act.put, List.setIfInBounds_toArray, List.set_cons_zero, List.set_cons_succ]
  refine take_at 4 26 rfl rfl (by kernel_rfl) (by kernel_rfl) (by kernel_rfl) (yieldsIf_load_mid (by rfl) 66 _ rfl g6 0 rfl TV.toList _ (fun w' h => h.1) Tryz.underlying66 rfl (by rw [Array.length_toList]; exact s147)) hHeld ?_
  simp only [Act.put, List.setIfInBounds_toArray, List.set_cons_zero, List.set_cons_succ]
  refine take_at 5 27 rfl rfl (by kernel_rfl) (by kernel_rfl) (by kernel_rfl) (yieldsIf_load_mid (by rfl) 66 _ rfl g6 0 rfl TV.toList _ (fun w' h => h.1) Tryz.underlying66 rfl (by rw [Array.length_toList]; exact s147)) hHeld ?_
  simp only [Act.put, List.setIfInBounds_toArray, List.set_cons_zero, List.set_cons_succ]
  refine take_at 6 28 rfl rfl (by kernel_rfl) (by kernel_rfl) (by kernel_rfl) (yieldsIf_load_mid (by rfl) 67 _ rfl g7 0 rfl DV.toList _ (fun w' h => h.2.1) Tryz.underlying67 rfl (by rw [Array.length_toList]; exact s8)) hHeld ?_
  simp only [Act.put, List.setIfInBounds_toArray, List.set_cons_zero, List.set_cons_succ]
  refine take_at 7 29 rfl rfl (by kernel_rfl) (by kernel_rfl) (by kernel_rfl) (yieldsIf_build5 (by rfl) 146 (.tmp 22) (.tmp 25) (.tmp 26) (.tmp 27) (.tmp 28) rfl (.pointer (some ⟨m, 0, none⟩)) (.agg (frV (Fr.new lo A.n))) (.agg TV) (.agg TV) (.agg DV) rfl rfl rfl rfl rfl _ (unhide BS)) hHeld ?_
  simp only [Act.put, List.setIfInBounds_toArray, List.set_cons_zero, List.set_cons_succ]
  have O3 := hide ((unhide O2).alloc (unhide T0) (.cells (tab 1477 (stF m ⟨Fr.new lo A.n, t, t, d, fun _ => ze, false⟩)) 146))
  refine wpAnyH_ready (rs := [8]) (by kernel_rfl) (by simp) ?_
  refine AllReadyH.cons rfl (fun K hK => ?_) AllReadyH.nil
  generalize hSV : tab 1477 (stF m ⟨Fr.new lo A.n, t, t, d, fun _ => ze, false⟩) = SV at *
  refine (if_pos (by rfl)).mpr ?_
  go_wp2_with fail
  have RX : Hid ((w3.alloc (.cells SV 146)).rangeAt g6 0 TV.toList ∧ (w3.alloc (.cells SV 146)).rangeAt g7 0 DV.toList ∧ (w3.alloc (.cells SV 146)).rangeAt fb 0 (frV (Fr.new lo A.n)).toList) := ⟨World.rangeAt_alloc RT _, World.rangeAt_alloc RD _, World.rangeAt_alloc RF _⟩
  clear hHeld RT RD RF
  refine hK.out _ _ (unhide RX) (fun hNew => ?_)
  have hHeld := hNew
  clear hK K hNew RX s1026 s147 s8 BS S1
  have HN := hide (heap_new w3 (.cells SV 146))
  have HLT : Hid (∀ k, G k → k ≠ w3.heap.size) := fun k hk e => by have := (M.stay A).lt _ _ (unhide O2).1 k (Or.inl hk); omega
  have HNEW := hide ((M.stay A).sz _ _ (unhide O2).1).size
  clear O2
  obtain ⟨g, hg⟩ : ∃ g, g = w3.heap.size := ⟨_, rfl⟩
  rw [← hg] at O3 HN HLT HNEW ⊢
  clear hg
  generalize w3.alloc (.cells SV 146) = w4 at *
  refine take_at 9 12 (v := ?_) rfl rfl (by kernel_rfl) (by kernel_rfl) (by kernel_rfl) (Or.inl ⟨by rfl, ?_⟩) hHeld ?_
  rotate_left
  · intro w hSw; go_simp; with_reducible rfl
  simp only [Act.put, List.setIfInBounds_toArray, List.set_cons_zero, List.set_cons_succ]
  refine wpAnyH_done (by kernel_rfl) ?_ _
  refine NoPanic.normal ?_
  clear hHeld
  have H5 : Hid (SHas W m g St ⟨Fr.new lo A.n, t, t, d, fun _ => ze, false⟩ A w4 G ∧ Same G w w4) := ⟨⟨Blk.of_tab (by rw [hSV]; exact unhide HN), (M.stay A).ls _ _ _ (unhide O3).1 (fun k hk => by
      rcases hk with hk | rfl
      · exact Or.inl hk
      · exact Or.inr ⟨_, List.mem_cons_self⟩), fun hk => unhide HLT _ hk rfl, unhide HNEW⟩, (unhide O3).2.2⟩
  have CC := hide (claim_any M (unhide H5).1 (unhide FOK))
  have HOB : Hid (ofB (Fr.new lo A.n) t d = (Fr.new lo A.n).takesB (claimL t d)) := rfl
  have HSM := hide (unhide H5).2
  clear O3 HN HLT HNEW hSV H5
  go_wp2_with fail
  refine (unhide CC).mono ?_
  rintro e w5 ⟨rfl, F, hF, hh, hs, hT⟩
  have HH := hide hh
  have HS := hide ((unhide HSM).trans hs)
  have HTF := hide hT
  have EQ : Hid ((Sto.mk (Fr.new lo A.n) t t d (fun _ => ze) false).F.takesB (claimL (Sto.mk (Fr.new lo A.n) t t d (fun _ => ze) false).w (Sto.mk (Fr.new lo A.n) t t d (fun _ => ze) false).d) = ofB (Fr.new lo A.n) t d) := rfl
  rw [unhide EQ]
  rw [unhide EQ] at HTF
  clear hh hs hT CC HSM EQ
  cases hB : ofB (Fr.new lo A.n) t d with
  | true =>
    have HB := hide hB
    have hFE := hide (unhide HTF hB)
    clear hB HTF
    go_wp2_with fail
    go_ret2
    unfold OfPost
    rw [if_pos (unhide HB)]
    refine ⟨g, rfl, (unhide HH).eqS ?_, unhide HS⟩
    rw [unhide hFE]; rfl
  | false =>
    have HB := hide hB
    clear hB HTF
    go_wp2_with fail
    go_ret2
    unfold OfPost
    rw [if_neg (by rw [unhide HB]; decide)]
    exact ⟨rfl, (M.stay A).ls _ _ _ (unhide HH).st (fun k hk => Or.inl hk), unhide HS⟩

end Go.Proofs.YtiafhcgaikapcaaGreat
