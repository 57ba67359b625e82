import Derived.Test.YtiafhcgaikapcaaGreatPkSto

/-
  Set: a word of an object is set, in its own line, or in a copy.
-/
namespace Go.Proofs.YtiafhcgaikapcaaGreat
open Go.ChangeShapes Go.WideShapes Go.ChangeAt Go.RowKit Go.Joins
set_option maxRecDepth 10000
set_option linter.unusedVariables false
set_option linter.unusedSimpArgs false


/-- What Set does where the object is not there, or the word is none. -/
theorem set_none {W w : World} {m b : Nat} {St : Mm → World → (Nat → Prop) → Prop} {S : Sto} {A : Mm} {G : Nat → Prop} (M : MemL W m St) (h : SHas W m b St S A w G) (z q v : Int) (hn : ¬ (is8 q ∧ S.findE z = 0)) :
    Calls Tryz.prog 20 #[.pointer (some ⟨b, 0, none⟩), .int .i64 z, .int .i64 q, .int .u64 v] w (Done (SHas W m b St S A) w G (.int .i64 (S.setE A z q v))) := by
  have T0 := hide (SHas.stay M b S A)
  have O0 := hide (Held.start (unhide T0) h)
  by_cases hq : is8 q
  · have hf : S.findE z ≠ 0 := fun e => hn ⟨hq, e⟩
    have HV : Hid (S.setE A z q v = S.findE z) := by show _ = _; unfold Sto.setE; rw [if_pos hq, if_neg hf]
    have CF := hide (find_any h.rep z)
    have hfb : (S.findE z != 0) = true := by simpa using hf
    obtain ⟨hq0, hq8⟩ := hq
    have HA : Hid (foundV S z = .tuple #[.agg #[.int .i64 (S.at z).k, .int .i64 (S.at z).v, .int .i64 (S.at z).l], .int .i64 (S.findE z)]) := rfl
    rw [unhide HA] at CF
    clear hn hf h HA
    generalize S.findE z = E at *
    generalize S.at z = X at *
    go_enter Tryz.func20, Tryz.ntmps20
    go_wp2_with fail
    refine (unhide CF).mono ?_
    rintro e w1 ⟨rfl, hb⟩
    have O1 := hide ((unhide O0).below (unhide T0) hb)
    clear hb CF O0
    go_wp2_with fail
    go_ret
    rw [unhide HV]
    exact ((unhide O1).alloc (unhide T0) _).done (unhide T0) _
  · have HV : Hid (S.setE A z q v = 1) := by show _ = _; unfold Sto.setE; rw [if_neg hq]
    have hq' : q < 0 ∨ 8 ≤ q := by unfold is8 at hq; omega
    clear hn hq h
    rcases hq' with hq | hq
    · go_enter Tryz.func20, Tryz.ntmps20
      go_wp2_with fail
      go_ret
      rw [unhide HV]
      exact (unhide O0).done (unhide T0) _
    · have hq0 : 0 ≤ q := by omega
      go_enter Tryz.func20, Tryz.ntmps20
      go_wp2_with fail
      go_ret
      rw [unhide HV]
      exact (unhide O0).done (unhide T0) _


/-- Its line is its own. -/
theorem set_own {W w : World} {m b : Nat} {St : Mm → World → (Nat → Prop) → Prop} {S : Sto} {A : Mm} {G : Nat → Prop} (M : MemL W m St) (h : SHas W m b St S A w G) (hA : A.ok 800) (z q v : Int) (hq : is8 q) (hf : S.findE z = 0) (ho : S.own (S.line z) = true) :
    Calls Tryz.prog 20 #[.pointer (some ⟨b, 0, none⟩), .int .i64 z, .int .i64 q, .int .u64 v] w (Done (SHas W m b St S (A.storeZ (S.line z) q v)) w G (.int .i64 (A.storeE (S.line z) q))) := by
  have T0 := hide (SHas.stay M b S A)
  have O0 := hide (Held.start (unhide T0) h)
  have hz := findE_ok hf
  obtain ⟨i, rfl⟩ : ∃ i : Nat, z = (i : Int) := ⟨z.toNat, by omega⟩
  have hi : i < 49 := by omega
  obtain ⟨k, v0, l, hx⟩ : ∃ k v0 l, S.w i = ⟨k, v0, l⟩ := ⟨_, _, _, rfl⟩
  have eL : S.line (i : Int) = l := by unfold Sto.line; rw [Int.toNat_natCast, hx]
  have CF := hide (find_any h.rep (i : Int))
  have HA : Hid (foundV S (i : Int) = .tuple #[.agg #[.int .i64 k, .int .i64 v0, .int .i64 l], .int .i64 0]) := by
    show foundV S (i : Int) = _
    unfold foundV Sto.at; rw [if_pos hf, hf, Int.toNat_natCast, hx]; rfl
  rw [unhide HA] at CF
  obtain ⟨hq0, hq8⟩ := hq
  rw [eL] at ho ⊢
  have hok := hide (ok_mono hA (show 800 ≤ 1000 by decide))
  clear h hf hz HA hA hx eL
  go_enter Tryz.func20, Tryz.ntmps20
  go_wp2_with fail
  refine (unhide CF).mono ?_
  rintro e w1 ⟨rfl, hb⟩
  have O1 := hide ((unhide O0).below (unhide T0) hb)
  clear hb CF O0
  go_wp2_with fail
  have O2 := hide ((unhide O1).alloc (unhide T0) (.cells #[.int .i64 k, .int .i64 v0, .int .i64 l] 41))
  obtain ⟨g, hg⟩ : ∃ g, g = w1.heap.size := ⟨_, rfl⟩
  rw [← hg] at O2 ⊢
  refine (isOwn_any (unhide O2).st.rep l).mono ?_
  rintro e w2 ⟨rfl, hb2⟩
  have O3 := hide ((unhide O2).below (unhide T0) hb2)
  rw [ho]
  clear hb2 O2 O1 hg
  have kg := (unhide O3).at g (.cells #[.int .i64 k, .int .i64 v0, .int .i64 l] 41) (by simp)
  have cg2 : w2.cell? ⟨g, 2, none⟩ = some (.int .i64 l) := by rw [cell_of_block kg]; rfl
  have cb0 := (unhide O3).st.pm
  clear kg
  go_upto_region 7 with fail
  refine wp_region_noPanic ?_
  refine wp_region_held_drew (S := fun w' => w'.cell? ⟨b, 0, none⟩ = some (.pointer (some ⟨m, 0, none⟩)) ∧ w'.cell? ⟨g, 2, none⟩ = some (.int .i64 l)) (by kernel_rfl) ⟨cb0, cg2⟩ (fun hHeld => ?_)
  refine take_at 0 32 (v := ?_) rfl rfl (by kernel_rfl) (by kernel_rfl) (by kernel_rfl) (Or.inl ⟨by rfl, ?_⟩) hHeld ?_
  rotate_left
  · intro w hSw; go_simp; with_reducible rfl
  simp only [Act.put, List.setIfInBounds_toArray, List.set_cons_zero, List.set_cons_succ]
  refine take_at 1 33 (v := ?_) rfl rfl (by kernel_rfl) (by kernel_rfl) (by kernel_rfl) (Or.inl ⟨by rfl, ?_⟩) hHeld ?_
  rotate_left
  · intro w hSw; go_simp; with_reducible rfl
  simp only [Act.put, List.setIfInBounds_toArray, List.set_cons_zero, List.set_cons_succ]
  refine take_at 2 34 (v := ?_) rfl rfl (by kernel_rfl) (by kernel_rfl) (by kernel_rfl) (Or.inl ⟨by rfl, ?_⟩) hHeld ?_
  rotate_left
  · intro w hSw; go_simp; with_reducible rfl
  simp only [Act.put, List.setIfInBounds_toArray, List.set_cons_zero, List.set_cons_succ]
  refine take_at 3 35 (v := ?_) rfl rfl (by kernel_rfl) (by kernel_rfl) (by kernel_rfl) (Or.inl ⟨by rfl, ?_⟩) hHeld ?_
  rotate_left
  · intro w hSw; obtain ⟨s1, s2⟩ := hSw; go_simp; with_reducible rfl
  simp only [Act.put, List.setIfInBounds_toArray, List.set_cons_zero, List.set_cons_succ]
  refine take_at 4 36 (v := ?_) rfl rfl (by kernel_rfl) (by kernel_rfl) (by kernel_rfl) (Or.inl ⟨by rfl, ?_⟩) hHeld ?_
  rotate_left
  · intro w hSw; go_simp; with_reducible rfl
  simp only [Act.put, List.setIfInBounds_toArray, List.set_cons_zero, List.set_cons_succ]
  refine take_at 5 37 (v := ?_) rfl rfl (by kernel_rfl) (by kernel_rfl) (by kernel_rfl) (Or.inl ⟨by rfl, ?_⟩) hHeld ?_
  rotate_left
  · intro w hSw; obtain ⟨s1, s2⟩ := hSw; go_simp; with_reducible rfl
  simp only [Act.put, List.setIfInBounds_toArray, List.set_cons_zero, List.set_cons_succ]
  refine take_at 6 38 (v := ?_) rfl rfl (by kernel_rfl) (by kernel_rfl) (by kernel_rfl) (Or.inl ⟨by rfl, ?_⟩) hHeld ?_
  rotate_left
  · intro w hSw; go_simp; with_reducible rfl
  simp only [Act.put, List.setIfInBounds_toArray, List.set_cons_zero, List.set_cons_succ]
  refine take_at 7 39 (v := ?_) rfl rfl (by kernel_rfl) (by kernel_rfl) (by kernel_rfl) (Or.inl ⟨by rfl, ?_⟩) hHeld ?_
  rotate_left
  · intro w hSw; go_simp; with_reducible rfl
  simp only [Act.put, List.setIfInBounds_toArray, List.set_cons_zero, List.set_cons_succ]
  refine wpAnyH_ready (rs := [8]) (by kernel_rfl) (by simp) ?_
  refine AllReadyH.cons rfl (fun K hK => ?_) AllReadyH.nil
  go_simp
  have O4 := hide ((unhide O3).drew (unhide T0))
  refine ((unhide O4).st.store M (unhide hok) l q v).mono ?_
  rintro e w3 ⟨rfl, h1, h2⟩
  have O5 := hide ((unhide O4).call (St' := SHas W m b St S (A.storeZ l q v)) h1 h2)
  have kg := (unhide O5).at g (.cells #[.int .i64 k, .int .i64 v0, .int .i64 l] 41) (by simp)
  go_wp2_with fail
  clear hHeld
  refine hK.out _ _ ⟨(unhide O5).st.pm, by rw [cell_of_block kg]; rfl⟩ (fun hNew => ?_)
  have hHeld := hNew
  clear hK K hNew h1 h2 O4 O3 kg
  refine take_at 9 8 (v := ?_) rfl rfl (by kernel_rfl) (by kernel_rfl) (by kernel_rfl) (Or.inl ⟨by rfl, ?_⟩) hHeld ?_
  rotate_left
  · intro w hSw; go_simp; with_reducible rfl
  simp only [Act.put, List.setIfInBounds_toArray, List.set_cons_zero, List.set_cons_succ]
  refine wpAnyH_done (by kernel_rfl) ?_ _
  refine NoPanic.normal ?_
  go_wp2_with fail
  go_ret
  exact (unhide O5).done (SHas.stay M b _ _) _

/-- No frame is free. -/
theorem set_full {W w : World} {m b : Nat} {St : Mm → World → (Nat → Prop) → Prop} {S : Sto} {A : Mm} {G : Nat → Prop} (M : MemL W m St) (h : SHas W m b St S A w G) (hS : S.ok) (z q v : Int) (hq : is8 q) (hf : S.findE z = 0) (ho : S.own (S.line z) = false) (hl : S.F.left = 0) :
    Calls Tryz.prog 20 #[.pointer (some ⟨b, 0, none⟩), .int .i64 z, .int .i64 q, .int .u64 v] w (Done (SHas W m b St S A) w G (.int .i64 10)) := by
  have T0 := hide (SHas.stay M b S A)
  have O0 := hide (Held.start (unhide T0) h)
  have hz := findE_ok hf
  obtain ⟨i, rfl⟩ : ∃ i : Nat, z = (i : Int) := ⟨z.toNat, by omega⟩
  have hi : i < 49 := by omega
  obtain ⟨k, v0, l, hx⟩ : ∃ k v0 l, S.w i = ⟨k, v0, l⟩ := ⟨_, _, _, rfl⟩
  have eL : S.line (i : Int) = l := by unfold Sto.line; rw [Int.toNat_natCast, hx]
  have CF := hide (find_any h.rep (i : Int))
  have HA : Hid (foundV S (i : Int) = .tuple #[.agg #[.int .i64 k, .int .i64 v0, .int .i64 l], .int .i64 0]) := by
    show foundV S (i : Int) = _
    unfold foundV Sto.at; rw [if_pos hf, hf, Int.toNat_natCast, hx]; rfl
  rw [unhide HA] at CF
  obtain ⟨hq0, hq8⟩ := hq
  rw [eL] at ho
  have CL := hide (fun (w' : World) (h' : SFr m S w' b S.F) => sleft_any h' hS.1)
  rw [hl] at CL
  clear h hf hz HA hx eL hl
  go_enter Tryz.func20, Tryz.ntmps20
  go_wp2_with fail
  refine (unhide CF).mono ?_
  rintro e w1 ⟨rfl, hb⟩
  have O1 := hide ((unhide O0).below (unhide T0) hb)
  clear hb CF O0
  go_wp2_with fail
  have O2 := hide ((unhide O1).alloc (unhide T0) (.cells #[.int .i64 k, .int .i64 v0, .int .i64 l] 41))
  obtain ⟨g, hg⟩ : ∃ g, g = w1.heap.size := ⟨_, rfl⟩
  rw [← hg] at O2 ⊢
  refine (isOwn_any (unhide O2).st.rep l).mono ?_
  rintro e w2 ⟨rfl, hb2⟩
  have O3 := hide ((unhide O2).below (unhide T0) hb2)
  rw [ho]
  clear hb2 O2 O1 hg
  have kg := (unhide O3).at g (.cells #[.int .i64 k, .int .i64 v0, .int .i64 l] 41) (by simp)
  have cg2 : w2.cell? ⟨g, 2, none⟩ = some (.int .i64 l) := by rw [cell_of_block kg]; rfl
  have cb0 := (unhide O3).st.pm
  clear kg
  go_wp2_with fail
  refine (unhide CL _ (unhide O3).st.rep).mono ?_
  rintro e w2 ⟨rfl, rfl⟩
  go_wp2_with fail
  go_ret
  exact (unhide O3).done (unhide T0) _

/-- Its line is loaded with an error. -/
theorem set_dark {W w : World} {m b : Nat} {St : Mm → World → (Nat → Prop) → Prop} {S : Sto} {A : Mm} {G : Nat → Prop} (M : MemL W m St) (h : SHas W m b St S A w G) (hS : S.ok) (hn : A.n ≤ 1024) (z q v : Int) (hq : is8 q) (hf : S.findE z = 0) (ho : S.own (S.line z) = false) (hl : S.F.left ≠ 0) (hle : A.loadE (S.line z) ≠ 0) :
    Calls Tryz.prog 20 #[.pointer (some ⟨b, 0, none⟩), .int .i64 z, .int .i64 q, .int .u64 v] w (Done (SHas W m b St S A) w G (.int .i64 (A.loadE (S.line z)))) := by
  have T0 := hide (SHas.stay M b S A)
  have O0 := hide (Held.start (unhide T0) h)
  have hz := findE_ok hf
  obtain ⟨i, rfl⟩ : ∃ i : Nat, z = (i : Int) := ⟨z.toNat, by omega⟩
  have hi : i < 49 := by omega
  obtain ⟨k, v0, l, hx⟩ : ∃ k v0 l, S.w i = ⟨k, v0, l⟩ := ⟨_, _, _, rfl⟩
  have eL : S.line (i : Int) = l := by unfold Sto.line; rw [Int.toNat_natCast, hx]
  have CF := hide (find_any h.rep (i : Int))
  have HA : Hid (foundV S (i : Int) = .tuple #[.agg #[.int .i64 k, .int .i64 v0, .int .i64 l], .int .i64 0]) := by
    show foundV S (i : Int) = _
    unfold foundV Sto.at; rw [if_pos hf, hf, Int.toNat_natCast, hx]; rfl
  rw [unhide HA] at CF
  obtain ⟨hq0, hq8⟩ := hq
  rw [eL] at ho hle ⊢
  have CL := hide (fun (w' : World) (h' : SFr m S w' b S.F) => sleft_any h' hS.1)
  obtain ⟨n, hnl⟩ : ∃ n, n = S.F.left := ⟨_, rfl⟩
  have hn0 : ((n : Int) == 0) = false := by simp; omega
  rw [← hnl] at CL
  clear h hf hz HA hx eL hl hnl
  go_enter Tryz.func20, Tryz.ntmps20
  go_wp2_with fail
  refine (unhide CF).mono ?_
  rintro e w1 ⟨rfl, hb⟩
  have O1 := hide ((unhide O0).below (unhide T0) hb)
  clear hb CF O0
  go_wp2_with fail
  have O2 := hide ((unhide O1).alloc (unhide T0) (.cells #[.int .i64 k, .int .i64 v0, .int .i64 l] 41))
  obtain ⟨g, hg⟩ : ∃ g, g = w1.heap.size := ⟨_, rfl⟩
  rw [← hg] at O2 ⊢
  refine (isOwn_any (unhide O2).st.rep l).mono ?_
  rintro e w2 ⟨rfl, hb2⟩
  have O3 := hide ((unhide O2).below (unhide T0) hb2)
  rw [ho]
  clear hb2 O2 O1 hg
  have kg := (unhide O3).at g (.cells #[.int .i64 k, .int .i64 v0, .int .i64 l] 41) (by simp)
  have cg2 : w2.cell? ⟨g, 2, none⟩ = some (.int .i64 l) := by rw [cell_of_block kg]; rfl
  have cb0 := (unhide O3).st.pm
  clear kg
  go_wp2_with fail
  refine (unhide CL _ (unhide O3).st.rep).mono ?_
  rintro e w2 ⟨rfl, rfl⟩
  obtain ⟨LF, hlf⟩ : ∃ LF, A.hasZ l = LF := ⟨_, rfl⟩
  obtain ⟨E, hle'⟩ : ∃ E, A.loadE l = E := ⟨_, rfl⟩
  rw [hle'] at hle
  have hE1 : (E != 0) = true := by simpa using hle
  clear hle
  have hle := hle'
  clear hle'
  go_upto_region 10 with fail
  refine wp_region_noPanic ?_
  refine wp_region_held_drew (S := fun w' => w'.cell? ⟨b, 0, none⟩ = some (.pointer (some ⟨m, 0, none⟩)) ∧ w'.cell? ⟨g, 2, none⟩ = some (.int .i64 l)) (by kernel_rfl) ⟨cb0, cg2⟩ (fun hHeld => ?_)
  refine take_at 0 47 (v := ?_) rfl rfl (by kernel_rfl) (by kernel_rfl) (by kernel_rfl) (Or.inl ⟨by rfl, ?_⟩) hHeld ?_
  rotate_left
  · intro w hSw; go_simp; with_reducible rfl
  simp only [Act.put, List.setIfInBounds_toArray, List.set_cons_zero, List.set_cons_succ]
  refine take_at 1 48 (v := ?_) rfl rfl (by kernel_rfl) (by kernel_rfl) (by kernel_rfl) (Or.inl ⟨by rfl, ?_⟩) hHeld ?_
  rotate_left
  · intro w hSw; go_simp; with_reducible rfl
  simp only [Act.put, List.setIfInBounds_toArray, List.set_cons_zero, List.set_cons_succ]
  refine take_at 2 49 (v := ?_) rfl rfl (by kernel_rfl) (by kernel_rfl) (by kernel_rfl) (Or.inl ⟨by rfl, ?_⟩) hHeld ?_
  rotate_left
  · intro w hSw; go_simp; with_reducible rfl
  simp only [Act.put, List.setIfInBounds_toArray, List.set_cons_zero, List.set_cons_succ]
  refine take_at 3 50 (v := ?_) rfl rfl (by kernel_rfl) (by kernel_rfl) (by kernel_rfl) (Or.inl ⟨by rfl, ?_⟩) hHeld ?_
  rotate_left
  · intro w hSw; obtain ⟨s1, s2⟩ := hSw; go_simp; with_reducible rfl
  simp only [Act.put, List.setIfInBounds_toArray, List.set_cons_zero, List.set_cons_succ]
  refine take_at 4 51 (v := ?_) rfl rfl (by kernel_rfl) (by kernel_rfl) (by kernel_rfl) (Or.inl ⟨by rfl, ?_⟩) hHeld ?_
  rotate_left
  · intro w hSw; go_simp; with_reducible rfl
  simp only [Act.put, List.setIfInBounds_toArray, List.set_cons_zero, List.set_cons_succ]
  refine take_at 5 52 (v := ?_) rfl rfl (by kernel_rfl) (by kernel_rfl) (by kernel_rfl) (Or.inl ⟨by rfl, ?_⟩) hHeld ?_
  rotate_left
  · intro w hSw; obtain ⟨s1, s2⟩ := hSw; go_simp; with_reducible rfl
  simp only [Act.put, List.setIfInBounds_toArray, List.set_cons_zero, List.set_cons_succ]
  have O4 := hide ((unhide O3).drew (unhide T0))
  generalize w2.drew = wd at *
  clear O3 cb0 cg2
  refine wpAnyH_ready (rs := [6, 10]) (by kernel_rfl) (by simp) ?_
  refine AllReadyH.cons rfl (fun K hK => ?_) (AllReadyH.cons rfl (fun K hK => ?_) AllReadyH.nil)
  · go_simp
    refine ((unhide O4).st.load M hn l).mono ?_
    rintro e w3 ⟨rfl, h1, h2⟩
    have OX := hide ((unhide O4).call (St' := SHas W m b St S A) h1 h2)
    rw [hle, hlf]
    go_wp2_with fail
    clear hHeld
    have kgx := (unhide OX).at g (.cells #[.int .i64 k, .int .i64 v0, .int .i64 l] 41) (by simp)
    refine hK.out _ _ ⟨(unhide OX).st.pm, by rw [cell_of_block kgx]; rfl⟩ (fun hNew => ?_)
    have hHeld := hNew
    clear hK K hNew kgx
    clear h1 h2 O4
    refine take_at 7 46 (v := ?_) rfl rfl (by kernel_rfl) (by kernel_rfl) (by kernel_rfl) (Or.inl ⟨by rfl, ?_⟩) hHeld ?_
    rotate_left
    · intro w hSw; go_simp; with_reducible rfl
    simp only [Act.put, List.setIfInBounds_toArray, List.set_cons_zero, List.set_cons_succ]
    refine take_at 8 54 (v := ?_) rfl rfl (by kernel_rfl) (by kernel_rfl) (by kernel_rfl) (Or.inl ⟨by rfl, ?_⟩) hHeld ?_
    rotate_left
    · intro w hSw; go_simp; with_reducible rfl
    simp only [Act.put, List.setIfInBounds_toArray, List.set_cons_zero, List.set_cons_succ]
    refine take_at 9 55 (v := ?_) rfl rfl (by kernel_rfl) (by kernel_rfl) (by kernel_rfl) (Or.inl ⟨by rfl, ?_⟩) hHeld ?_
    rotate_left
    · intro w hSw; go_simp; with_reducible rfl
    simp only [Act.put, List.setIfInBounds_toArray, List.set_cons_zero, List.set_cons_succ]
    refine wpAnyH_ready (rs := [10]) (by kernel_rfl) (by simp) ?_
    refine AllReadyH.cons rfl (fun K hK => ?_) AllReadyH.nil
    have OY := hide ((unhide OX).alloc (unhide T0) (.cells #[.int .u64 0, .int .u64 0, .int .u64 0, .int .u64 0, .int .u64 0, .int .u64 0, .int .u64 0, .int .u64 0] 83))
    have HNE := hide (unhide OX).fresh
    go_wp2_with fail
    clear OX
    obtain ⟨g8, hg8⟩ : ∃ g8, g8 = w3.heap.size := ⟨_, rfl⟩
    rw [← hg8] at OY HNE ⊢
    have OX := OY
    generalize w3.alloc _ = w4 at *
    clear hHeld
    have kgx := (unhide OX).at g (.cells #[.int .i64 k, .int .i64 v0, .int .i64 l] 41) (by simp)
    refine hK.out _ _ ⟨(unhide OX).st.pm, by rw [cell_of_block kgx]; rfl⟩ (fun hNew => ?_)
    have hHeld := hNew
    clear hK K hNew kgx
    clear OX hg8
    refine wpAnyH_ready (rs := [11]) (by kernel_rfl) (by simp) ?_
    refine AllReadyH.cons rfl (fun K hK => ?_) AllReadyH.nil
    have KG := (unhide OY).at g8 (.cells #[.int .u64 0, .int .u64 0, .int .u64 0, .int .u64 0, .int .u64 0, .int .u64 0, .int .u64 0, .int .u64 0] 83) (by simp)
    refine (if_pos (by rfl)).mpr ?_
    refine wp_store_row 83 (.tmp 11) (.tmp 54) rfl g8 (lnV LF) rfl rfl _ _ KG (s8_ln LF) (by rw [lnV_size]; rfl) (lnV_one _) ?_
    have OX := hide ((unhide OY).rowHd (unhide T0) (unhide HNE) (lnV LF))
    clear hHeld
    have kgx := (unhide OX).at g (.cells #[.int .i64 k, .int .i64 v0, .int .i64 l] 41) (by simp)
    refine hK.out _ _ ⟨(unhide OX).st.pm, by rw [cell_of_block kgx]; rfl⟩ (fun hNew => ?_)
    have hHeld := hNew
    clear hK K hNew kgx
    clear KG OY
    refine take_at 12 10 (v := ?_) rfl rfl (by kernel_rfl) (by kernel_rfl) (by kernel_rfl) (Or.inl ⟨by rfl, ?_⟩) hHeld ?_
    rotate_left
    · intro w hSw; go_simp; with_reducible rfl
    simp only [Act.put, List.setIfInBounds_toArray, List.set_cons_zero, List.set_cons_succ]
    refine wpAnyH_done (by kernel_rfl) ?_ _
    refine NoPanic.normal ?_
    clear hHeld
    go_wp2_with fail
    go_ret
    rw [hle]
    exact (unhide OX).done (unhide T0) _
  · have OY := hide ((unhide O4).alloc (unhide T0) (.cells #[.int .u64 0, .int .u64 0, .int .u64 0, .int .u64 0, .int .u64 0, .int .u64 0, .int .u64 0, .int .u64 0] 83))
    have HNE := hide (unhide O4).fresh
    go_wp2_with fail
    clear O4
    obtain ⟨g8, hg8⟩ : ∃ g8, g8 = wd.heap.size := ⟨_, rfl⟩
    rw [← hg8] at OY HNE ⊢
    have OX := OY
    generalize wd.alloc _ = w4 at *
    clear hHeld
    have kgx := (unhide OX).at g (.cells #[.int .i64 k, .int .i64 v0, .int .i64 l] 41) (by simp)
    refine hK.out _ _ ⟨(unhide OX).st.pm, by rw [cell_of_block kgx]; rfl⟩ (fun hNew => ?_)
    have hHeld := hNew
    clear hK K hNew kgx
    clear OX hg8
    refine wpAnyH_ready (rs := [6]) (by kernel_rfl) (by simp) ?_
    refine AllReadyH.cons rfl (fun K hK => ?_) AllReadyH.nil
    go_simp
    refine ((unhide OY).st.load M hn l).mono ?_
    rintro e w3 ⟨rfl, h1, h2⟩
    have OX := hide ((unhide OY).call (St' := SHas W m b St S A) h1 h2)
    rw [hle, hlf]
    go_wp2_with fail
    clear hHeld
    have kgx := (unhide OX).at g (.cells #[.int .i64 k, .int .i64 v0, .int .i64 l] 41) (by simp)
    refine hK.out _ _ ⟨(unhide OX).st.pm, by rw [cell_of_block kgx]; rfl⟩ (fun hNew => ?_)
    have hHeld := hNew
    clear hK K hNew kgx
    clear h1 h2 OY
    have OY := OX
    clear OX
    refine take_at 7 46 (v := ?_) rfl rfl (by kernel_rfl) (by kernel_rfl) (by kernel_rfl) (Or.inl ⟨by rfl, ?_⟩) hHeld ?_
    rotate_left
    · intro w hSw; go_simp; with_reducible rfl
    simp only [Act.put, List.setIfInBounds_toArray, List.set_cons_zero, List.set_cons_succ]
    refine take_at 8 54 (v := ?_) rfl rfl (by kernel_rfl) (by kernel_rfl) (by kernel_rfl) (Or.inl ⟨by rfl, ?_⟩) hHeld ?_
    rotate_left
    · intro w hSw; go_simp; with_reducible rfl
    simp only [Act.put, List.setIfInBounds_toArray, List.set_cons_zero, List.set_cons_succ]
    refine take_at 9 55 (v := ?_) rfl rfl (by kernel_rfl) (by kernel_rfl) (by kernel_rfl) (Or.inl ⟨by rfl, ?_⟩) hHeld ?_
    rotate_left
    · intro w hSw; go_simp; with_reducible rfl
    simp only [Act.put, List.setIfInBounds_toArray, List.set_cons_zero, List.set_cons_succ]
    refine wpAnyH_ready (rs := [11]) (by kernel_rfl) (by simp) ?_
    refine AllReadyH.cons rfl (fun K hK => ?_) AllReadyH.nil
    have KG := (unhide OY).at g8 (.cells #[.int .u64 0, .int .u64 0, .int .u64 0, .int .u64 0, .int .u64 0, .int .u64 0, .int .u64 0, .int .u64 0] 83) (by simp)
    refine (if_pos (by rfl)).mpr ?_
    refine wp_store_row 83 (.tmp 11) (.tmp 54) rfl g8 (lnV LF) rfl rfl _ _ KG (s8_ln LF) (by rw [lnV_size]; rfl) (lnV_one _) ?_
    have OX := hide ((unhide OY).rowHd (unhide T0) (unhide HNE) (lnV LF))
    clear hHeld
    have kgx := (unhide OX).at g (.cells #[.int .i64 k, .int .i64 v0, .int .i64 l] 41) (by simp)
    refine hK.out _ _ ⟨(unhide OX).st.pm, by rw [cell_of_block kgx]; rfl⟩ (fun hNew => ?_)
    have hHeld := hNew
    clear hK K hNew kgx
    clear KG OY
    refine take_at 12 10 (v := ?_) rfl rfl (by kernel_rfl) (by kernel_rfl) (by kernel_rfl) (Or.inl ⟨by rfl, ?_⟩) hHeld ?_
    rotate_left
    · intro w hSw; go_simp; with_reducible rfl
    simp only [Act.put, List.setIfInBounds_toArray, List.set_cons_zero, List.set_cons_succ]
    refine wpAnyH_done (by kernel_rfl) ?_ _
    refine NoPanic.normal ?_
    clear hHeld
    go_wp2_with fail
    go_ret
    rw [hle]
    exact (unhide OX).done (unhide T0) _

/-- What a copy that was laid makes of the store. -/
def Sto.laid (S : Sto) (A : Mm) (C : Nat → Int) (i : Nat) : Sto := if S.layE A C = 0 then S.took.withW i (moved (S.w i) S.F.allocV) else S.took
set_option maxHeartbeats 4000000 in
/-- A copy of its line is laid into a frame. -/
theorem set_copy {W w : World} {m b : Nat} {St : Mm → World → (Nat → Prop) → Prop} {S : Sto} {A : Mm} {G : Nat → Prop} (M : MemL W m St) (h : SHas W m b St S A w G) (hS : S.ok) (hA : A.ok 800) (z q v : Int) (hv : InU v) (hq : is8 q) (hf : S.findE z = 0) (ho : S.own (S.line z) = false) (hl : S.F.left ≠ 0) (hle : A.loadE (S.line z) = 0) :
    Calls Tryz.prog 20 #[.pointer (some ⟨b, 0, none⟩), .int .i64 z, .int .i64 q, .int .u64 v] w
      (Done (SHas W m b St (S.laid A (S.copy A z q v) z.toNat) (S.layM A (S.copy A z q v))) w G (.int .i64 (S.layE A (S.copy A z q v)))) := by
  have hIN := hide (copy_inU hA S z q v hv)
  have T0 := hide (SHas.stay M b S A)
  have O0 := hide (Held.start (unhide T0) h)
  have hz := findE_ok hf
  obtain ⟨i, rfl⟩ : ∃ i : Nat, z = (i : Int) := ⟨z.toNat, by omega⟩
  have hi : i < 49 := by omega
  obtain ⟨k, v0, l, hx⟩ : ∃ k v0 l, S.w i = ⟨k, v0, l⟩ := ⟨_, _, _, rfl⟩
  have eL : S.line (i : Int) = l := by unfold Sto.line; rw [Int.toNat_natCast, hx]
  have CF := hide (find_any h.rep (i : Int))
  have HA : Hid (foundV S (i : Int) = .tuple #[.agg #[.int .i64 k, .int .i64 v0, .int .i64 l], .int .i64 0]) := by
    show foundV S (i : Int) = _
    unfold foundV Sto.at; rw [if_pos hf, hf, Int.toNat_natCast, hx]; rfl
  rw [unhide HA] at CF
  obtain ⟨hq0, hq8⟩ := hq
  obtain ⟨Q, rfl⟩ : ∃ Q : Nat, q = (Q : Int) := ⟨q.toNat, by omega⟩
  have hQ : Q < 8 := by omega
  have eC : S.copy A (i : Int) (Q : Int) v = upd (A.hasZ l) Q v := by unfold Sto.copy; rw [eL, Int.toNat_natCast]
  rw [eC] at hIN ⊢
  rw [eL] at ho hle
  rw [Int.toNat_natCast]
  have hn : A.n ≤ 1024 := hA.2.1
  have hok := hide (ok_mono hA (show 800 ≤ 900 by decide))
  have CL := hide (fun (w' : World) (h' : SFr m S w' b S.F) => sleft_any h' hS.1)
  obtain ⟨n, hnl⟩ : ∃ n, n = S.F.left := ⟨_, rfl⟩
  have hn0 : ((n : Int) == 0) = false := by simp; omega
  rw [← hnl] at CL
  clear h hf hz HA hx eL hl hnl eC hA
  obtain ⟨LF, hlf⟩ : ∃ LF, A.hasZ l = LF := ⟨_, rfl⟩
  rw [hlf] at hIN ⊢
  go_enter Tryz.func20, Tryz.ntmps20
  go_wp2_with fail
  refine (unhide CF).mono ?_
  rintro e w1 ⟨rfl, hb⟩
  have O1 := hide ((unhide O0).below (unhide T0) hb)
  clear hb CF O0
  go_wp2_with fail
  have O2 := hide ((unhide O1).alloc (unhide T0) (.cells #[.int .i64 k, .int .i64 v0, .int .i64 l] 41))
  obtain ⟨g, hg⟩ : ∃ g, g = w1.heap.size := ⟨_, rfl⟩
  rw [← hg] at O2 ⊢
  refine (isOwn_any (unhide O2).st.rep l).mono ?_
  rintro e w2 ⟨rfl, hb2⟩
  have O3 := hide ((unhide O2).below (unhide T0) hb2)
  rw [ho]
  clear hb2 O2 O1 hg
  have kg := (unhide O3).at g (.cells #[.int .i64 k, .int .i64 v0, .int .i64 l] 41) (by simp)
  have cg2 : w2.cell? ⟨g, 2, none⟩ = some (.int .i64 l) := by rw [cell_of_block kg]; rfl
  have cb0 := (unhide O3).st.pm
  clear kg
  go_wp2_with fail
  refine (unhide CL _ (unhide O3).st.rep).mono ?_
  rintro e w2 ⟨rfl, rfl⟩
  go_upto_region 10 with fail
  refine wp_region_noPanic ?_
  refine wp_region_held_drew (S := fun w' => w'.cell? ⟨b, 0, none⟩ = some (.pointer (some ⟨m, 0, none⟩)) ∧ w'.cell? ⟨g, 2, none⟩ = some (.int .i64 l)) (by kernel_rfl) ⟨cb0, cg2⟩ (fun hHeld => ?_)
  refine take_at 0 47 (v := ?_) rfl rfl (by kernel_rfl) (by kernel_rfl) (by kernel_rfl) (Or.inl ⟨by rfl, ?_⟩) hHeld ?_
  rotate_left
  · intro w hSw; go_simp; with_reducible rfl
  simp only [Act.put, List.setIfInBounds_toArray, List.set_cons_zero, List.set_cons_succ]
  refine take_at 1 48 (v := ?_) rfl rfl (by kernel_rfl) (by kernel_rfl) (by kernel_rfl) (Or.inl ⟨by rfl, ?_⟩) hHeld ?_
  rotate_left
  · intro w hSw; go_simp; with_reducible rfl
  simp only [Act.put, List.setIfInBounds_toArray, List.set_cons_zero, List.set_cons_succ]
  refine take_at 2 49 (v := ?_) rfl rfl (by kernel_rfl) (by kernel_rfl) (by kernel_rfl) (Or.inl ⟨by rfl, ?_⟩) hHeld ?_
  rotate_left
  · intro w hSw; go_simp; with_reducible rfl
  simp only [Act.put, List.setIfInBounds_toArray, List.set_cons_zero, List.set_cons_succ]
  refine take_at 3 50 (v := ?_) rfl rfl (by kernel_rfl) (by kernel_rfl) (by kernel_rfl) (Or.inl ⟨by rfl, ?_⟩) hHeld ?_
  rotate_left
  · intro w hSw; obtain ⟨s1, s2⟩ := hSw; go_simp; with_reducible rfl
  simp only [Act.put, List.setIfInBounds_toArray, List.set_cons_zero, List.set_cons_succ]
  refine take_at 4 51 (v := ?_) rfl rfl (by kernel_rfl) (by kernel_rfl) (by kernel_rfl) (Or.inl ⟨by rfl, ?_⟩) hHeld ?_
  rotate_left
  · intro w hSw; go_simp; with_reducible rfl
  simp only [Act.put, List.setIfInBounds_toArray, List.set_cons_zero, List.set_cons_succ]
  refine take_at 5 52 (v := ?_) rfl rfl (by kernel_rfl) (by kernel_rfl) (by kernel_rfl) (Or.inl ⟨by rfl, ?_⟩) hHeld ?_
  rotate_left
  · intro w hSw; obtain ⟨s1, s2⟩ := hSw; go_simp; with_reducible rfl
  simp only [Act.put, List.setIfInBounds_toArray, List.set_cons_zero, List.set_cons_succ]
  have O4 := hide ((unhide O3).drew (unhide T0))
  generalize w2.drew = wd at *
  clear O3 cb0 cg2
  refine wpAnyH_ready (rs := [6, 10]) (by kernel_rfl) (by simp) ?_
  refine AllReadyH.cons rfl (fun K hK => ?_) (AllReadyH.cons rfl (fun K hK => ?_) AllReadyH.nil)
  · go_simp
    refine ((unhide O4).st.load M hn l).mono ?_
    rintro e w3 ⟨rfl, h1, h2⟩
    have OX := hide ((unhide O4).call (St' := SHas W m b St S A) h1 h2)
    rw [hle, hlf]
    go_wp2_with fail
    clear hHeld
    have kgx := (unhide OX).at g (.cells #[.int .i64 k, .int .i64 v0, .int .i64 l] 41) (by simp)
    refine hK.out _ _ ⟨(unhide OX).st.pm, by rw [cell_of_block kgx]; rfl⟩ (fun hNew => ?_)
    have hHeld := hNew
    clear hK K hNew kgx
    clear h1 h2 O4
    refine take_at 7 46 (v := ?_) rfl rfl (by kernel_rfl) (by kernel_rfl) (by kernel_rfl) (Or.inl ⟨by rfl, ?_⟩) hHeld ?_
    rotate_left
    · intro w hSw; go_simp; with_reducible rfl
    simp only [Act.put, List.setIfInBounds_toArray, List.set_cons_zero, List.set_cons_succ]
    refine take_at 8 54 (v := ?_) rfl rfl (by kernel_rfl) (by kernel_rfl) (by kernel_rfl) (Or.inl ⟨by rfl, ?_⟩) hHeld ?_
    rotate_left
    · intro w hSw; go_simp; with_reducible rfl
    simp only [Act.put, List.setIfInBounds_toArray, List.set_cons_zero, List.set_cons_succ]
    refine take_at 9 55 (v := ?_) rfl rfl (by kernel_rfl) (by kernel_rfl) (by kernel_rfl) (Or.inl ⟨by rfl, ?_⟩) hHeld ?_
    rotate_left
    · intro w hSw; go_simp; with_reducible rfl
    simp only [Act.put, List.setIfInBounds_toArray, List.set_cons_zero, List.set_cons_succ]
    refine wpAnyH_ready (rs := [10]) (by kernel_rfl) (by simp) ?_
    refine AllReadyH.cons rfl (fun K hK => ?_) AllReadyH.nil
    have OY := hide ((unhide OX).alloc (unhide T0) (.cells #[.int .u64 0, .int .u64 0, .int .u64 0, .int .u64 0, .int .u64 0, .int .u64 0, .int .u64 0, .int .u64 0] 83))
    have HNE := hide (unhide OX).fresh
    go_wp2_with fail
    clear OX
    obtain ⟨g8, hg8⟩ : ∃ g8, g8 = w3.heap.size := ⟨_, rfl⟩
    rw [← hg8] at OY HNE ⊢
    have OX := OY
    generalize w3.alloc _ = w4 at *
    clear hHeld
    have kgx := (unhide OX).at g (.cells #[.int .i64 k, .int .i64 v0, .int .i64 l] 41) (by simp)
    refine hK.out _ _ ⟨(unhide OX).st.pm, by rw [cell_of_block kgx]; rfl⟩ (fun hNew => ?_)
    have hHeld := hNew
    clear hK K hNew kgx
    clear OX hg8
    refine wpAnyH_ready (rs := [11]) (by kernel_rfl) (by simp) ?_
    refine AllReadyH.cons rfl (fun K hK => ?_) AllReadyH.nil
    have KG := (unhide OY).at g8 (.cells #[.int .u64 0, .int .u64 0, .int .u64 0, .int .u64 0, .int .u64 0, .int .u64 0, .int .u64 0, .int .u64 0] 83) (by simp)
    refine (if_pos (by rfl)).mpr ?_
    refine wp_store_row 83 (.tmp 11) (.tmp 54) rfl g8 (lnV LF) rfl rfl _ _ KG (s8_ln LF) (by rw [lnV_size]; rfl) (lnV_one _) ?_
    have OX := hide ((unhide OY).rowHd (unhide T0) (unhide HNE) (lnV LF))
    clear hHeld
    have kgx := (unhide OX).at g (.cells #[.int .i64 k, .int .i64 v0, .int .i64 l] 41) (by simp)
    refine hK.out _ _ ⟨(unhide OX).st.pm, by rw [cell_of_block kgx]; rfl⟩ (fun hNew => ?_)
    have hHeld := hNew
    clear hK K hNew kgx
    clear KG OY
    refine take_at 12 10 (v := ?_) rfl rfl (by kernel_rfl) (by kernel_rfl) (by kernel_rfl) (Or.inl ⟨by rfl, ?_⟩) hHeld ?_
    rotate_left
    · intro w hSw; go_simp; with_reducible rfl
    simp only [Act.put, List.setIfInBounds_toArray, List.set_cons_zero, List.set_cons_succ]
    refine wpAnyH_done (by kernel_rfl) ?_ _
    refine NoPanic.normal ?_
    clear hHeld
    generalize World.setRow _ g8 (lnV LF) = w5 at *
    have cq : w5.cell? ⟨g8, Q, none⟩ = some (.int .u64 (LF Q)) := by rw [cell_of_block ((unhide OX).at g8 (.cells (lnV LF) 83) (by simp))]; exact lnV_get LF Q hQ
    have fq : w5.frozen? ⟨g8, Q, none⟩ = false := unfrozen_of_block ((unhide OX).at g8 (.cells (lnV LF) 83) (by simp)) _
    have OZ := hide ((unhide OX).cellHd (unhide T0) (unhide HNE) Q (.int .u64 v))
    rw [lnV_set] at OZ
    clear OX
    go_upto_region 14 with fail
    clear cq fq
    generalize w5.setCell _ _ = w6 at *
    have KL := hide ((unhide OZ).at g8 (.cells (lnV (upd LF Q v)) 83) (by simp))
    have s8 := s8_ln (upd LF Q v)
    have CY := hide (lay_any M (unhide OZ).st hS (unhide hok) (upd LF Q v) (unhide hIN))
    generalize upd LF Q v = LC at *
    obtain ⟨LV, hLV⟩ : ∃ LV, LV = lnV LC := ⟨_, rfl⟩
    rw [← hLV] at KL s8 CY OZ
    clear hLV
    go_wp2_with (with_reducible refine wpList_load_row (by with_unfolding_all rfl) 83 _ (by with_unfolding_all rfl) g8 (by with_unfolding_all rfl) _ _ _ _ (unhide KL) Tryz.underlying83 (by with_unfolding_all rfl) s8 ?_)
    refine (unhide CY).mono ?_
    rintro e w7 ⟨rfl, h1, h2⟩
    have OV := hide ((unhide OZ).call (St' := SHas W m b St S.took (S.layM A LC)) h1 h2)
    clear h1 h2 OZ KL CY s8
    have TV := hide (SHas.stay M b S.took (S.layM A LC))
    by_cases hE : S.layE A LC = 0
    · have hV : S.layV A LC = S.F.allocV := by unfold Sto.layV; rw [if_pos hE]
      have HP : Hid (S.laid A LC i = S.took.withW i (moved (S.w i) S.F.allocV)) := if_pos hE
      have HE0 := hide hE
      rw [hE, hV]
      have OT := hide (Held.turn (St' := SHas W m b St (S.took.withW i (moved (S.w i) S.F.allocV)) (S.layM A LC)) (w' := w7.setCell ⟨b, 1027 + i * 3 + 2, none⟩ (.int .i64 S.F.allocV)) (unhide OV) ((unhide OV).st.line M i hi S.F.allocV))
      have cl : (w7.cell? ⟨b, 1027 + i * 3 + 2, none⟩).isSome = true := by rw [Blk.cell (unhide OV).st.rep _ (by omega)]; rfl
      have fl : w7.frozen? ⟨b, 1027 + i * 3 + 2, none⟩ = false := Blk.free (unhide OV).st.rep _
      have hi1 : (i : Int) < 49 := by omega
      obtain ⟨cv, hcl⟩ := Option.isSome_iff_exists.1 cl
      clear OV hE cl hV
      generalize S.F.allocV = V at *
      go_wp2_with fail
      go_ret
      rw [unhide HP, unhide HE0]
      exact (unhide OT).done (SHas.stay M b _ _) _
    · have HP : Hid (S.laid A LC i = S.took) := if_neg hE
      have hEb : (S.layE A LC != 0) = true := by simpa using hE
      have HEE : Hid (S.layE A LC = S.layE A LC) := rfl
      clear hE
      obtain ⟨EL, hEL⟩ : ∃ EL, EL = S.layE A LC := ⟨_, rfl⟩
      have HEL := hide hEL
      rw [← hEL] at hEb ⊢
      clear hEL HEE
      generalize S.layV A LC = V at *
      go_wp2_with fail
      go_ret
      rw [unhide HP, ← unhide HEL]
      exact (unhide OV).done (unhide TV) _
  · have OY := hide ((unhide O4).alloc (unhide T0) (.cells #[.int .u64 0, .int .u64 0, .int .u64 0, .int .u64 0, .int .u64 0, .int .u64 0, .int .u64 0, .int .u64 0] 83))
    have HNE := hide (unhide O4).fresh
    go_wp2_with fail
    clear O4
    obtain ⟨g8, hg8⟩ : ∃ g8, g8 = wd.heap.size := ⟨_, rfl⟩
    rw [← hg8] at OY HNE ⊢
    have OX := OY
    generalize wd.alloc _ = w4 at *
    clear hHeld
    have kgx := (unhide OX).at g (.cells #[.int .i64 k, .int .i64 v0, .int .i64 l] 41) (by simp)
    refine hK.out _ _ ⟨(unhide OX).st.pm, by rw [cell_of_block kgx]; rfl⟩ (fun hNew => ?_)
    have hHeld := hNew
    clear hK K hNew kgx
    clear OX hg8
    refine wpAnyH_ready (rs := [6]) (by kernel_rfl) (by simp) ?_
    refine AllReadyH.cons rfl (fun K hK => ?_) AllReadyH.nil
    go_simp
    refine ((unhide OY).st.load M hn l).mono ?_
    rintro e w3 ⟨rfl, h1, h2⟩
    have OX := hide ((unhide OY).call (St' := SHas W m b St S A) h1 h2)
    rw [hle, hlf]
    go_wp2_with fail
    clear hHeld
    have kgx := (unhide OX).at g (.cells #[.int .i64 k, .int .i64 v0, .int .i64 l] 41) (by simp)
    refine hK.out _ _ ⟨(unhide OX).st.pm, by rw [cell_of_block kgx]; rfl⟩ (fun hNew => ?_)
    have hHeld := hNew
    clear hK K hNew kgx
    clear h1 h2 OY
    have OY := OX
    clear OX
    refine take_at 7 46 (v := ?_) rfl rfl (by kernel_rfl) (by kernel_rfl) (by kernel_rfl) (Or.inl ⟨by rfl, ?_⟩) hHeld ?_
    rotate_left
    · intro w hSw; go_simp; with_reducible rfl
    simp only [Act.put, List.setIfInBounds_toArray, List.set_cons_zero, List.set_cons_succ]
    refine take_at 8 54 (v := ?_) rfl rfl (by kernel_rfl) (by kernel_rfl) (by kernel_rfl) (Or.inl ⟨by rfl, ?_⟩) hHeld ?_
    rotate_left
    · intro w hSw; go_simp; with_reducible rfl
    simp only [Act.put, List.setIfInBounds_toArray, List.set_cons_zero, List.set_cons_succ]
    refine take_at 9 55 (v := ?_) rfl rfl (by kernel_rfl) (by kernel_rfl) (by kernel_rfl) (Or.inl ⟨by rfl, ?_⟩) hHeld ?_
    rotate_left
    · intro w hSw; go_simp; with_reducible rfl
    simp only [Act.put, List.setIfInBounds_toArray, List.set_cons_zero, List.set_cons_succ]
    refine wpAnyH_ready (rs := [11]) (by kernel_rfl) (by simp) ?_
    refine AllReadyH.cons rfl (fun K hK => ?_) AllReadyH.nil
    have KG := (unhide OY).at g8 (.cells #[.int .u64 0, .int .u64 0, .int .u64 0, .int .u64 0, .int .u64 0, .int .u64 0, .int .u64 0, .int .u64 0] 83) (by simp)
    refine (if_pos (by rfl)).mpr ?_
    refine wp_store_row 83 (.tmp 11) (.tmp 54) rfl g8 (lnV LF) rfl rfl _ _ KG (s8_ln LF) (by rw [lnV_size]; rfl) (lnV_one _) ?_
    have OX := hide ((unhide OY).rowHd (unhide T0) (unhide HNE) (lnV LF))
    clear hHeld
    have kgx := (unhide OX).at g (.cells #[.int .i64 k, .int .i64 v0, .int .i64 l] 41) (by simp)
    refine hK.out _ _ ⟨(unhide OX).st.pm, by rw [cell_of_block kgx]; rfl⟩ (fun hNew => ?_)
    have hHeld := hNew
    clear hK K hNew kgx
    clear KG OY
    refine take_at 12 10 (v := ?_) rfl rfl (by kernel_rfl) (by kernel_rfl) (by kernel_rfl) (Or.inl ⟨by rfl, ?_⟩) hHeld ?_
    rotate_left
    · intro w hSw; go_simp; with_reducible rfl
    simp only [Act.put, List.setIfInBounds_toArray, List.set_cons_zero, List.set_cons_succ]
    refine wpAnyH_done (by kernel_rfl) ?_ _
    refine NoPanic.normal ?_
    clear hHeld
    generalize World.setRow _ g8 (lnV LF) = w5 at *
    have cq : w5.cell? ⟨g8, Q, none⟩ = some (.int .u64 (LF Q)) := by rw [cell_of_block ((unhide OX).at g8 (.cells (lnV LF) 83) (by simp))]; exact lnV_get LF Q hQ
    have fq : w5.frozen? ⟨g8, Q, none⟩ = false := unfrozen_of_block ((unhide OX).at g8 (.cells (lnV LF) 83) (by simp)) _
    have OZ := hide ((unhide OX).cellHd (unhide T0) (unhide HNE) Q (.int .u64 v))
    rw [lnV_set] at OZ
    clear OX
    go_upto_region 14 with fail
    clear cq fq
    generalize w5.setCell _ _ = w6 at *
    have KL := hide ((unhide OZ).at g8 (.cells (lnV (upd LF Q v)) 83) (by simp))
    have s8 := s8_ln (upd LF Q v)
    have CY := hide (lay_any M (unhide OZ).st hS (unhide hok) (upd LF Q v) (unhide hIN))
    generalize upd LF Q v = LC at *
    obtain ⟨LV, hLV⟩ : ∃ LV, LV = lnV LC := ⟨_, rfl⟩
    rw [← hLV] at KL s8 CY OZ
    clear hLV
    go_wp2_with (with_reducible refine wpList_load_row (by with_unfolding_all rfl) 83 _ (by with_unfolding_all rfl) g8 (by with_unfolding_all rfl) _ _ _ _ (unhide KL) Tryz.underlying83 (by with_unfolding_all rfl) s8 ?_)
    refine (unhide CY).mono ?_
    rintro e w7 ⟨rfl, h1, h2⟩
    have OV := hide ((unhide OZ).call (St' := SHas W m b St S.took (S.layM A LC)) h1 h2)
    clear h1 h2 OZ KL CY s8
    have TV := hide (SHas.stay M b S.took (S.layM A LC))
    by_cases hE : S.layE A LC = 0
    · have hV : S.layV A LC = S.F.allocV := by unfold Sto.layV; rw [if_pos hE]
      have HP : Hid (S.laid A LC i = S.took.withW i (moved (S.w i) S.F.allocV)) := if_pos hE
      have HE0 := hide hE
      rw [hE, hV]
      have OT := hide (Held.turn (St' := SHas W m b St (S.took.withW i (moved (S.w i) S.F.allocV)) (S.layM A LC)) (w' := w7.setCell ⟨b, 1027 + i * 3 + 2, none⟩ (.int .i64 S.F.allocV)) (unhide OV) ((unhide OV).st.line M i hi S.F.allocV))
      have cl : (w7.cell? ⟨b, 1027 + i * 3 + 2, none⟩).isSome = true := by rw [Blk.cell (unhide OV).st.rep _ (by omega)]; rfl
      have fl : w7.frozen? ⟨b, 1027 + i * 3 + 2, none⟩ = false := Blk.free (unhide OV).st.rep _
      have hi1 : (i : Int) < 49 := by omega
      obtain ⟨cv, hcl⟩ := Option.isSome_iff_exists.1 cl
      clear OV hE cl hV
      generalize S.F.allocV = V at *
      go_wp2_with fail
      go_ret
      rw [unhide HP, unhide HE0]
      exact (unhide OT).done (SHas.stay M b _ _) _
    · have HP : Hid (S.laid A LC i = S.took) := if_neg hE
      have hEb : (S.layE A LC != 0) = true := by simpa using hE
      have HEE : Hid (S.layE A LC = S.layE A LC) := rfl
      clear hE
      obtain ⟨EL, hEL⟩ : ∃ EL, EL = S.layE A LC := ⟨_, rfl⟩
      have HEL := hide hEL
      rw [← hEL] at hEb ⊢
      clear hEL HEE
      generalize S.layV A LC = V at *
      go_wp2_with fail
      go_ret
      rw [unhide HP, ← unhide HEL]
      exact (unhide OV).done (unhide TV) _

theorem set_any {W w : World} {m b : Nat} {St : Mm → World → (Nat → Prop) → Prop} {S : Sto} {A : Mm} {G : Nat → Prop} (M : MemL W m St) (h : SHas W m b St S A w G) (hS : S.ok) (hA : A.ok 800) (z q v : Int) (hv : InU v) :
    Calls Tryz.prog 20 #[.pointer (some ⟨b, 0, none⟩), .int .i64 z, .int .i64 q, .int .u64 v] w (Done (SHas W m b St (S.setS A z q v) (S.setM A z q v)) w G (.int .i64 (S.setE A z q v))) := by
  by_cases h1 : is8 q ∧ S.findE z = 0
  · have e1 : S.setE A z q v = if S.own (S.line z) = true then A.storeE (S.line z) q else if S.F.left = 0 then 10 else if A.loadE (S.line z) = 0 then S.layE A (S.copy A z q v) else A.loadE (S.line z) := by
      unfold Sto.setE; rw [if_pos h1.1, if_pos h1.2]
    have e2 : S.setS A z q v = if S.own (S.line z) = true then S else if S.F.left ≠ 0 ∧ A.loadE (S.line z) = 0 then S.laid A (S.copy A z q v) z.toNat else S := by
      unfold Sto.setS; rw [if_pos h1]; rfl
    have e3 : S.setM A z q v = if S.own (S.line z) = true then A.storeZ (S.line z) q v else if S.F.left ≠ 0 ∧ A.loadE (S.line z) = 0 then S.layM A (S.copy A z q v) else A := by
      unfold Sto.setM; rw [if_pos h1]
    rcases Bool.eq_false_or_eq_true (S.own (S.line z)) with ho | ho
    · rw [if_pos ho] at e1 e2 e3
      rw [e1, e2, e3]
      exact set_own M h hA z q v h1.1 h1.2 ho
    · have hn : ¬ S.own (S.line z) = true := by simp [ho]
      rw [if_neg hn] at e1 e2 e3
      by_cases hl : S.F.left = 0
      · rw [if_pos hl] at e1
        rw [if_neg (fun c => c.1 hl)] at e2 e3
        rw [e1, e2, e3]
        exact set_full M h hS z q v h1.1 h1.2 ho hl
      · rw [if_neg hl] at e1
        by_cases hle : A.loadE (S.line z) = 0
        · rw [if_pos hle] at e1
          rw [if_pos ⟨hl, hle⟩] at e2 e3
          rw [e1, e2, e3]
          exact set_copy M h hS hA z q v hv h1.1 h1.2 ho hl hle
        · rw [if_neg hle] at e1
          rw [if_neg (fun c => hle c.2)] at e2 e3
          rw [e1, e2, e3]
          exact set_dark M h hS hA.2.1 z q v h1.1 h1.2 ho hl hle
  · unfold Sto.setS Sto.setM
    rw [if_neg h1, if_neg h1]
    exact set_none M h z q v h1

end Go.Proofs.YtiafhcgaikapcaaGreat


/-
  Make: a new object of noughts, at the next number that is free.
-/
namespace Go.Proofs.YtiafhcgaikapcaaGreat
open Go.ChangeShapes Go.WideShapes Go.ChangeAt Go.RowKit Go.Joins
set_option maxRecDepth 10000
set_option linter.unusedVariables false
set_option linter.unusedSimpArgs false

theorem build_zl : Tryz.prog.built 83 [] = some (lnV zeroL) := by kernel_rfl
theorem zeroL_inU : ∀ j, InU (zeroL j) := fun j => by show InU 0; exact ⟨by decide, by decide⟩

theorem make_none {W w : World} {m b : Nat} {St : Mm → World → (Nat → Prop) → Prop} {S : Sto} {A : Mm} {G : Nat → Prop} (M : MemL W m St) (h : SHas W m b St S A w G) (z : Int) (hz : S.nextE z ≠ 0) :
    Calls Tryz.prog 22 #[.pointer (some ⟨b, 0, none⟩), .int .i64 z] w (Done (SHas W m b St S A) w G (.tuple #[.int .i64 0, .int .i64 (S.nextE z)])) := by
  have T0 := hide (SHas.stay M b S A)
  have O0 := hide (Held.start (unhide T0) h)
  have CF := hide (next_any h.rep z)
  have HA : Hid (nextT S z = .tuple #[.int .i64 (S.nextI z), .int .i64 (S.nextV z), .int .i64 (S.nextE z)]) := rfl
  rw [unhide HA] at CF
  have hzb : (S.nextE z != 0) = true := by simpa using hz
  clear h HA hz
  generalize S.nextE z = E at *
  generalize S.nextI z = I at *
  generalize S.nextV z = V at *
  go_enter Tryz.func22, Tryz.ntmps22
  go_wp2_with fail
  refine (unhide CF).mono ?_
  rintro e w1 ⟨rfl, hb⟩
  have O1 := hide ((unhide O0).below (unhide T0) hb)
  clear hb CF O0
  go_wp2_with fail
  go_ret2
  exact (unhide O1).done (unhide T0) _

set_option maxHeartbeats 2000000 in
theorem make_some {W w : World} {m b : Nat} {St : Mm → World → (Nat → Prop) → Prop} {S : Sto} {A : Mm} {G : Nat → Prop} (M : MemL W m St) (h : SHas W m b St S A w G) (hS : S.ok) (hA : A.ok 900) (z : Int) (hz : S.nextE z = 0) :
    Calls Tryz.prog 22 #[.pointer (some ⟨b, 0, none⟩), .int .i64 z] w (Done (SHas W m b St (S.makeS A z) (S.makeM A z)) w G (.tuple #[.int .i64 (S.makeI A z), .int .i64 (S.makeE A z)])) := by
  have T0 := hide (SHas.stay M b S A)
  have O0 := hide (Held.start (unhide T0) h)
  have CF := hide (next_any h.rep z)
  obtain ⟨k, e1, hk, hop, e2, hnx, hmk⟩ := nextE_ok hz
  have HA : Hid (nextT S z = .tuple #[.int .i64 (k : Int), .int .i64 (S.nextV z), .int .i64 0]) := by show nextT S z = _; unfold nextT; rw [hz, e1]
  rw [unhide HA] at CF
  have EM : Hid (S.makeM A z = S.layM A zeroL) := if_pos hz
  have EE : Hid (S.makeE A z = S.layE A zeroL) := if_pos hz
  have EI : Hid (S.layE A zeroL = 0 → S.makeI A z = k) := fun q => (if_pos (by rw [unhide EE]; exact q)).trans e1
  have EJ : Hid (S.layE A zeroL ≠ 0 → S.makeI A z = 0) := fun q => if_neg (by rw [unhide EE]; exact q)
  have ES : Hid (S.layE A zeroL = 0 → S.makeS A z = S.took.withW k ⟨z, S.nextV z, S.F.allocV⟩) := fun q => by unfold Sto.makeS; rw [if_pos hz, if_pos q, e1, Int.toNat_natCast]
  have EZ : Hid (S.layE A zeroL ≠ 0 → S.makeS A z = S.took) := fun q => by unfold Sto.makeS; rw [if_pos hz, if_neg q]
  have CY := hide (fun (w' : World) (L : List (Nat × Obj)) (O : Held W (SHas W m b St S A) w w' G L) => lay_any M O.st hS hA zeroL zeroL_inU)
  have hk1 : (k : Int) < 49 := by omega
  clear h HA hz e1 e2 hop hnx hmk hA
  generalize S.nextV z = V at *
  obtain ⟨ZL, hZL⟩ : ∃ ZL, ZL = lnV zeroL := ⟨_, rfl⟩
  have bz := build_zl
  rw [← hZL] at CY bz
  clear hZL
  have HB := hide bz
  clear bz
  go_enter Tryz.func22, Tryz.ntmps22
  go_wp2_with fail
  refine (unhide CF).mono ?_
  rintro e w1 ⟨rfl, hb⟩
  have O1 := hide ((unhide O0).below (unhide T0) hb)
  clear hb CF O0
  go_wp2_with (with_reducible refine wpList_build0 (by with_unfolding_all rfl) 83 (by with_unfolding_all rfl) ZL (unhide HB) ?_)
  refine (unhide CY _ _ (unhide O1)).mono ?_
  rintro e w2 ⟨rfl, h1, h2⟩
  have O2 := hide ((unhide O1).call (St' := SHas W m b St S.took (S.layM A zeroL)) h1 h2)
  clear h1 h2 CY O1
  by_cases hE : S.layE A zeroL = 0
  · have hV : S.layV A zeroL = S.F.allocV := by unfold Sto.layV; rw [if_pos hE]
    have HE0 := hide hE
    rw [hE, hV]
    have ht := hide ((unhide O2).st.there3 k hk)
    have OT := hide (Held.turn (St' := SHas W m b St (S.took.withW k ⟨z, V, S.F.allocV⟩) (S.layM A zeroL)) (w' := w2.setCells b (1027 + k * 3) (ev ⟨z, V, S.F.allocV⟩).toList) (unhide O2) ((unhide O2).st.put M k hk ⟨z, V, S.F.allocV⟩))
    have HS := hide (unhide ES hE)
    have HI := hide (unhide EI hE)
    clear hE hV O2 ES EZ EI EJ
    generalize S.F.allocV = X at *
    go_wp2_with (with_reducible refine wpList_store_en (by with_unfolding_all rfl) _ _ (by with_unfolding_all rfl) b (1027 + k * 3) ⟨z, V, X⟩ (by with_unfolding_all rfl) (by with_unfolding_all rfl) (unhide ht) ?_)
    go_ret2
    rw [unhide EM, unhide EE, unhide HS, unhide HI, unhide HE0]
    exact (unhide OT).done (SHas.stay M b _ _) _
  · have HS := hide (unhide EZ hE)
    have HI := hide (unhide EJ hE)
    have hEb : (S.layE A zeroL != 0) = true := by simpa using hE
    clear hE ES EZ EI EJ
    obtain ⟨EL, hEL⟩ : ∃ EL, EL = S.layE A zeroL := ⟨_, rfl⟩
    have HEL := hide hEL
    rw [← hEL] at hEb ⊢
    clear hEL
    generalize S.layV A zeroL = X at *
    go_wp2_with fail
    go_ret2
    rw [unhide EM, unhide EE, unhide HS, unhide HI, ← unhide HEL]
    exact (unhide O2).done (SHas.stay M b _ _) _

theorem make_any {W w : World} {m b : Nat} {St : Mm → World → (Nat → Prop) → Prop} {S : Sto} {A : Mm} {G : Nat → Prop} (M : MemL W m St) (h : SHas W m b St S A w G) (hS : S.ok) (hA : A.ok 900) (z : Int) :
    Calls Tryz.prog 22 #[.pointer (some ⟨b, 0, none⟩), .int .i64 z] w (Done (SHas W m b St (S.makeS A z) (S.makeM A z)) w G (.tuple #[.int .i64 (S.makeI A z), .int .i64 (S.makeE A z)])) := by
  by_cases hz : S.nextE z = 0
  · exact make_some M h hS hA z hz
  · have e1 : S.makeM A z = A := if_neg hz
    have e2 : S.makeE A z = S.nextE z := if_neg hz
    have e3 : S.makeI A z = 0 := if_neg (by rw [e2]; exact hz)
    have e4 : S.makeS A z = S := by unfold Sto.makeS; rw [if_neg hz]
    rw [e1, e2, e3, e4]
    exact make_none M h z hz

end Go.Proofs.YtiafhcgaikapcaaGreat


/-
  End: an object ends; its line, if it is its own, is free.
-/
namespace Go.Proofs.YtiafhcgaikapcaaGreat
open Go.ChangeShapes Go.WideShapes Go.ChangeAt Go.RowKit Go.Joins
set_option maxRecDepth 10000
set_option linter.unusedVariables false
set_option linter.unusedSimpArgs false


theorem end_none {W w : World} {m b : Nat} {St : Mm → World → (Nat → Prop) → Prop} {S : Sto} {A : Mm} {G : Nat → Prop} (M : MemL W m St) (h : SHas W m b St S A w G) (z : Int) (hf : S.findE z ≠ 0) :
    Calls Tryz.prog 24 #[.pointer (some ⟨b, 0, none⟩), .int .i64 z] w (Done (SHas W m b St S A) w G (.int .i64 (S.findE z))) := by
  have T0 := hide (SHas.stay M b S A)
  have O0 := hide (Held.start (unhide T0) h)
  have CF := hide (find_any h.rep z)
  have hfb : (S.findE z != 0) = true := by simpa using hf
  have HA : Hid (foundV S z = .tuple #[.agg #[.int .i64 (S.at z).k, .int .i64 (S.at z).v, .int .i64 (S.at z).l], .int .i64 (S.findE z)]) := rfl
  rw [unhide HA] at CF
  clear hf h HA
  generalize S.findE z = E at *
  generalize S.at z = X at *
  go_enter Tryz.func24, Tryz.ntmps24
  go_wp2_with fail
  refine (unhide CF).mono ?_
  rintro e w1 ⟨rfl, hb⟩
  have O1 := hide ((unhide O0).below (unhide T0) hb)
  clear hb CF O0
  go_wp2_with fail
  go_ret
  exact ((unhide O1).alloc (unhide T0) _).done (unhide T0) _

set_option maxHeartbeats 2000000 in
theorem end_some {W w : World} {m b : Nat} {St : Mm → World → (Nat → Prop) → Prop} {S : Sto} {A : Mm} {G : Nat → Prop} (M : MemL W m St) (h : SHas W m b St S A w G) (hS : S.ok) (z : Int) (hf : S.findE z = 0) :
    Calls Tryz.prog 24 #[.pointer (some ⟨b, 0, none⟩), .int .i64 z] w (Done (SHas W m b St (S.endS z) A) w G (.int .i64 0)) := by
  have T0 := hide (SHas.stay M b S A)
  have O0 := hide (Held.start (unhide T0) h)
  have hz := findE_ok hf
  obtain ⟨i, rfl⟩ : ∃ i : Nat, z = (i : Int) := ⟨z.toNat, by omega⟩
  have hi : i < 49 := by omega
  obtain ⟨k, v0, l, hx⟩ : ∃ k v0 l, S.w i = ⟨k, v0, l⟩ := ⟨_, _, _, rfl⟩
  have hk : k ≠ 0 := by have := hz.2.2; rw [Int.toNat_natCast, hx] at this; exact this
  have eL : S.line (i : Int) = l := by unfold Sto.line; rw [Int.toNat_natCast, hx]
  have hv := hS.2 i hi
  rw [hx] at hv
  have hv0 : 0 ≤ v0 := hv.1
  have hv1 : v0 ≤ 16777215 := hv.2
  have CF := hide (find_any h.rep (i : Int))
  have HA : Hid (foundV S (i : Int) = .tuple #[.agg #[.int .i64 k, .int .i64 v0, .int .i64 l], .int .i64 0]) := by
    show foundV S (i : Int) = _
    unfold foundV Sto.at; rw [if_pos hf, hf, Int.toNat_natCast, hx]; rfl
  rw [unhide HA] at CF
  obtain ⟨N, hN⟩ : ∃ N, N = Go.Proofs.YtiafhcgaikapcaaGreat.nextI v0 := ⟨_, rfl⟩
  have CE : Hid (∀ w, Calls Tryz.prog 81 #[.agg #[.int .i64 k, .int .i64 v0, .int .i64 l]] w fun e w' => e = .returned (.tuple #[.agg #[.int .i64 0, .int .i64 N, .int .i64 0], .int .i64 0]) ∧ Below w.heap.size w w') := fun w => by
    have := end3 k v0 l (by omega) (by omega) w
    rw [show endV ⟨k, v0, l⟩ = ⟨0, N, 0⟩ by rw [hN]; exact if_neg hk, show endE ⟨k, v0, l⟩ = 0 from if_neg hk] at this
    exact this
  have CR := hide (fun (w' : World) (h' : SFr m S w' b S.F) => sfree_any h' hS.1 l)
  have HE : Hid (endV (S.w i) = ⟨0, N, 0⟩) := by rw [hx, hN]; exact if_neg hk
  rcases Bool.eq_false_or_eq_true (S.own l) with ho | ho
  · have ES : Hid (S.endS (i : Int) = (S.withF (S.F.turnA l 1 0)).withW i ⟨0, N, 0⟩) := by
      show _ = _
      unfold Sto.endS Sto.endF
      rw [if_pos hf, eL, if_pos ho, Int.toNat_natCast, unhide HE]; rfl
    obtain ⟨SE, hSE⟩ : ∃ SE, SE = S.withF (S.F.turnA l 1 0) := ⟨_, rfl⟩
    have HSE := hide hSE
    rw [← hSE] at ES
    clear h hf hz HA hx eL hv hN HE hSE
    go_enter Tryz.func24, Tryz.ntmps24
    go_wp2_with fail
    refine (unhide CF).mono ?_
    rintro e w1 ⟨rfl, hb⟩
    have O1 := hide ((unhide O0).below (unhide T0) hb)
    clear hb CF O0
    have O2 := hide ((unhide O1).alloc (unhide T0) (.cells #[.int .i64 k, .int .i64 v0, .int .i64 l] 41))
    go_wp2_with fail
    obtain ⟨g5, hg5⟩ : ∃ g5, g5 = w1.heap.size := ⟨_, rfl⟩
    rw [← hg5] at O2 ⊢
    clear hg5 O1
    refine (unhide CE _).mono ?_
    rintro e w2 ⟨rfl, hb⟩
    have O3 := hide ((unhide O2).below (unhide T0) hb)
    have O4 := hide ((unhide O3).alloc (unhide T0) (.cells #[.int .i64 0, .int .i64 N, .int .i64 0] 41))
    clear hb O2 O3 CE
    have cg : (w2.alloc (.cells #[.int .i64 0, .int .i64 N, .int .i64 0] 41)).cell? ⟨g5, 2, none⟩ = some (.int .i64 l) := by rw [cell_of_block ((unhide O4).at g5 (.cells #[.int .i64 k, .int .i64 v0, .int .i64 l] 41) (by simp))]; rfl
    go_wp2_with fail
    obtain ⟨g7, hg7⟩ : ∃ g7, g7 = w2.heap.size := ⟨_, rfl⟩
    rw [← hg7] at O4 ⊢
    clear hg7
    refine (isOwn_any (unhide O4).st.rep l).mono ?_
    rintro e w3 ⟨rfl, hb⟩
    have O5 := hide ((unhide O4).below (unhide T0) hb)
    rw [ho]
    clear hb O4 cg
    have cg : w3.cell? ⟨g5, 2, none⟩ = some (.int .i64 l) := by rw [cell_of_block ((unhide O5).at g5 (.cells #[.int .i64 k, .int .i64 v0, .int .i64 l] 41) (by simp))]; rfl
    go_upto_region 8 with fail
    refine wp_region_noPanic ?_
    refine wp_region_held_drew (S := fun w' => w'.cell? ⟨g5, 2, none⟩ = some (.int .i64 l)) (by kernel_rfl) cg (fun hHeld => ?_)
    refine take_at 0 29 (v := ?_) rfl rfl (by kernel_rfl) (by kernel_rfl) (by kernel_rfl) (Or.inl ⟨by rfl, ?_⟩) hHeld ?_
    rotate_left
    · intro w hSw; go_simp; with_reducible rfl
    simp only [Act.put, List.setIfInBounds_toArray, List.set_cons_zero, List.set_cons_succ]
    refine take_at 1 30 (v := ?_) rfl rfl (by kernel_rfl) (by kernel_rfl) (by kernel_rfl) (Or.inl ⟨by rfl, ?_⟩) hHeld ?_
    rotate_left
    · intro w hSw; go_simp; with_reducible rfl
    simp only [Act.put, List.setIfInBounds_toArray, List.set_cons_zero, List.set_cons_succ]
    refine take_at 2 31 (v := ?_) rfl rfl (by kernel_rfl) (by kernel_rfl) (by kernel_rfl) (Or.inl ⟨by rfl, ?_⟩) hHeld ?_
    rotate_left
    · intro w hSw; go_simp; with_reducible rfl
    simp only [Act.put, List.setIfInBounds_toArray, List.set_cons_zero, List.set_cons_succ]
    refine take_at 3 32 (v := ?_) rfl rfl (by kernel_rfl) (by kernel_rfl) (by kernel_rfl) (Or.inl ⟨by rfl, ?_⟩) hHeld ?_
    rotate_left
    · intro w hSw; go_simp; with_reducible rfl
    simp only [Act.put, List.setIfInBounds_toArray, List.set_cons_zero, List.set_cons_succ]
    refine take_at 4 33 (v := ?_) rfl rfl (by kernel_rfl) (by kernel_rfl) (by kernel_rfl) (Or.inl ⟨by rfl, ?_⟩) hHeld ?_
    rotate_left
    · intro w hSw; have s1 := hSw; go_simp; with_reducible rfl
    simp only [Act.put, List.setIfInBounds_toArray, List.set_cons_zero, List.set_cons_succ]
    have O6 := hide ((unhide O5).drew (unhide T0))
    generalize w3.drew = wd at *
    refine wpAnyH_ready (rs := [5]) (by kernel_rfl) (by simp) ?_
    refine AllReadyH.cons rfl (fun K hK => ?_) AllReadyH.nil
    go_simp
    refine (unhide CR _ (unhide O6).st.rep).mono ?_
    intro e we hw
    obtain ⟨rfl, h1, h2⟩ := (unhide O6).st.went M hw
    rw [← unhide HSE] at h1
    have OE := hide ((unhide O6).call (St' := SHas W m b St SE A) h1 h2)
    have kg := (unhide OE).at g5 (.cells #[.int .i64 k, .int .i64 v0, .int .i64 l] 41) (by simp)
    go_wp2_with fail
    clear hHeld
    refine hK.out _ _ (by rw [cell_of_block kg]; rfl) (fun hNew => ?_)
    clear hK K hNew O6 O5 kg cg h1 h2 hw
    refine wpAnyH_done (by kernel_rfl) ?_ _
    refine NoPanic.normal ?_
    have kg7 := (unhide OE).at g7 (.cells #[.int .i64 0, .int .i64 N, .int .i64 0] 41) (by simp)
    have r7 : we.rangeAt g7 0 (ev ⟨0, N, 0⟩).toList := fun j v hv => by rw [cell_of_block kg7, Nat.zero_add, ← Array.getElem?_toList]; exact hv
    have tb : we.there b (1027 + i * 3) 3 := (unhide OE).st.there3 i hi
    have R7 := hide r7
    have TB := hide tb
    clear kg7 r7 tb
    go_upto_region 9 with fail
    refine wp_region_noPanic ?_
    refine wp_region_held_drew (S := fun w' => w'.rangeAt g7 0 (ev ⟨0, N, 0⟩).toList) (by kernel_rfl) (unhide R7) (fun hHeld => ?_)
    refine take_at 0 35 (v := ?_) rfl rfl (by kernel_rfl) (by kernel_rfl) (by kernel_rfl) (Or.inl ⟨by rfl, ?_⟩) hHeld ?_
    rotate_left
    · intro w hSw; go_simp; with_reducible rfl
    simp only [Act.put, List.setIfInBounds_toArray, List.set_cons_zero, List.set_cons_succ]
    refine take_at 1 36 (v := ?_) rfl rfl (by kernel_rfl) (by kernel_rfl) (by kernel_rfl) (Or.inl ⟨by rfl, ?_⟩) hHeld ?_
    rotate_left
    · intro w hSw; go_simp; with_reducible rfl
    simp only [Act.put, List.setIfInBounds_toArray, List.set_cons_zero, List.set_cons_succ]
    refine take_at 2 37 rfl rfl (by kernel_rfl) (by kernel_rfl) (by kernel_rfl) (yieldsIf_load_mid (by rfl) 41 _ rfl g7 0 rfl (ev ⟨0, N, 0⟩).toList _ (fun w' h => h) Tryz.underlying41 rfl size3) hHeld ?_
    simp only [Act.put, List.setIfInBounds_toArray, List.set_cons_zero, List.set_cons_succ]
    refine take_at 3 38 (v := ?_) rfl rfl (by kernel_rfl) (by kernel_rfl) (by kernel_rfl) (Or.inl ⟨by rfl, ?_⟩) hHeld ?_
    rotate_left
    · intro w hSw; go_simp; with_reducible rfl
    simp only [Act.put, List.setIfInBounds_toArray, List.set_cons_zero, List.set_cons_succ]
    refine take_at 4 39 (v := ?_) rfl rfl (by kernel_rfl) (by kernel_rfl) (by kernel_rfl) (Or.inl ⟨by rfl, ?_⟩) hHeld ?_
    rotate_left
    · intro w hSw; go_simp; with_reducible rfl
    simp only [Act.put, List.setIfInBounds_toArray, List.set_cons_zero, List.set_cons_succ]
    refine take_at 5 40 (v := .pointer (some ⟨b, 1027 + i * 3, none⟩)) rfl rfl (by kernel_rfl) (by kernel_rfl) (by kernel_rfl) (Or.inl ⟨by rfl, ?_⟩) hHeld ?_
    · intro w hSw; have hi1 : (i : Int) < 49 := by omega
      first | (go_simp; done) | (go_simp; rfl)
    simp only [Act.put, List.setIfInBounds_toArray, List.set_cons_zero, List.set_cons_succ]
    refine wpAnyH_ready (rs := [6]) (by kernel_rfl) (by simp) ?_
    refine AllReadyH.cons rfl (fun K hK => ?_) AllReadyH.nil
    refine (if_pos (by rfl)).mpr ?_
    refine wp_store_mid 41 (.tmp 40) (.tmp 37) rfl b (1027 + i * 3) (ev ⟨0, N, 0⟩) rfl rfl (unhide TB) size3 (ev_one _) ?_
    have OF := hide ((unhide OE).drew (SHas.stay M b _ _))
    have OT := hide (Held.turn (St' := SHas W m b St (SE.withW i ⟨0, N, 0⟩) A) (w' := we.drew.setCells b (1027 + i * 3) (ev ⟨0, N, 0⟩).toList) (unhide OF) ((unhide OF).st.put M i hi ⟨0, N, 0⟩))
    have kg7 := (unhide OT).at g7 (.cells #[.int .i64 0, .int .i64 N, .int .i64 0] 41) (by simp)
    have r7 : (we.drew.setCells b (1027 + i * 3) (ev ⟨0, N, 0⟩).toList).rangeAt g7 0 (ev ⟨0, N, 0⟩).toList := fun j v hv => by rw [cell_of_block kg7, Nat.zero_add, ← Array.getElem?_toList]; exact hv
    clear hHeld kg7
    refine hK.out _ _ r7 (fun hNew => ?_)
    clear hK K hNew OF OE r7
    refine wpAnyH_done (by kernel_rfl) ?_ _
    refine NoPanic.normal ?_
    go_wp2_with fail
    go_ret
    rw [unhide ES]
    exact (unhide OT).done (SHas.stay M b _ _) _
  · have ES : Hid (S.endS (i : Int) = S.withW i ⟨0, N, 0⟩) := by
      show _ = _
      unfold Sto.endS Sto.endF
      rw [if_pos hf, eL, if_neg (by simp [ho]), Int.toNat_natCast, unhide HE]; rfl
    obtain ⟨SE, hSE⟩ : ∃ SE, SE = S := ⟨_, rfl⟩
    subst hSE
    clear h hf hz HA hx eL hv hN HE
    go_enter Tryz.func24, Tryz.ntmps24
    go_wp2_with fail
    refine (unhide CF).mono ?_
    rintro e w1 ⟨rfl, hb⟩
    have O1 := hide ((unhide O0).below (unhide T0) hb)
    clear hb CF O0
    have O2 := hide ((unhide O1).alloc (unhide T0) (.cells #[.int .i64 k, .int .i64 v0, .int .i64 l] 41))
    go_wp2_with fail
    obtain ⟨g5, hg5⟩ : ∃ g5, g5 = w1.heap.size := ⟨_, rfl⟩
    rw [← hg5] at O2 ⊢
    clear hg5 O1
    refine (unhide CE _).mono ?_
    rintro e w2 ⟨rfl, hb⟩
    have O3 := hide ((unhide O2).below (unhide T0) hb)
    have O4 := hide ((unhide O3).alloc (unhide T0) (.cells #[.int .i64 0, .int .i64 N, .int .i64 0] 41))
    clear hb O2 O3 CE
    have cg : (w2.alloc (.cells #[.int .i64 0, .int .i64 N, .int .i64 0] 41)).cell? ⟨g5, 2, none⟩ = some (.int .i64 l) := by rw [cell_of_block ((unhide O4).at g5 (.cells #[.int .i64 k, .int .i64 v0, .int .i64 l] 41) (by simp))]; rfl
    go_wp2_with fail
    obtain ⟨g7, hg7⟩ : ∃ g7, g7 = w2.heap.size := ⟨_, rfl⟩
    rw [← hg7] at O4 ⊢
    clear hg7
    refine (isOwn_any (unhide O4).st.rep l).mono ?_
    rintro e w3 ⟨rfl, hb⟩
    have O5 := hide ((unhide O4).below (unhide T0) hb)
    rw [ho]
    clear hb O4 cg
    have cg : w3.cell? ⟨g5, 2, none⟩ = some (.int .i64 l) := by rw [cell_of_block ((unhide O5).at g5 (.cells #[.int .i64 k, .int .i64 v0, .int .i64 l] 41) (by simp))]; rfl
    have OE := O5
    clear O5 cg
    generalize w3 = we at *
    have kg7 := (unhide OE).at g7 (.cells #[.int .i64 0, .int .i64 N, .int .i64 0] 41) (by simp)
    have r7 : we.rangeAt g7 0 (ev ⟨0, N, 0⟩).toList := fun j v hv => by rw [cell_of_block kg7, Nat.zero_add, ← Array.getElem?_toList]; exact hv
    have tb : we.there b (1027 + i * 3) 3 := (unhide OE).st.there3 i hi
    have R7 := hide r7
    have TB := hide tb
    clear kg7 r7 tb
    go_upto_region 9 with fail
    refine wp_region_noPanic ?_
    refine wp_region_held_drew (S := fun w' => w'.rangeAt g7 0 (ev ⟨0, N, 0⟩).toList) (by kernel_rfl) (unhide R7) (fun hHeld => ?_)
    refine take_at 0 35 (v := ?_) rfl rfl (by kernel_rfl) (by kernel_rfl) (by kernel_rfl) (Or.inl ⟨by rfl, ?_⟩) hHeld ?_
    rotate_left
    · intro w hSw; go_simp; with_reducible rfl
    simp only [Act.put, List.setIfInBounds_toArray, List.set_cons_zero, List.set_cons_succ]
    refine take_at 1 36 (v := ?_) rfl rfl (by kernel_rfl) (by kernel_rfl) (by kernel_rfl) (Or.inl ⟨by rfl, ?_⟩) hHeld ?_
    rotate_left
    · intro w hSw; go_simp; with_reducible rfl
    simp only [Act.put, List.setIfInBounds_toArray, List.set_cons_zero, List.set_cons_succ]
    refine take_at 2 37 rfl rfl (by kernel_rfl) (by kernel_rfl) (by kernel_rfl) (yieldsIf_load_mid (by rfl) 41 _ rfl g7 0 rfl (ev ⟨0, N, 0⟩).toList _ (fun w' h => h) Tryz.underlying41 rfl size3) hHeld ?_
    simp only [Act.put, List.setIfInBounds_toArray, List.set_cons_zero, List.set_cons_succ]
    refine take_at 3 38 (v := ?_) rfl rfl (by kernel_rfl) (by kernel_rfl) (by kernel_rfl) (Or.inl ⟨by rfl, ?_⟩) hHeld ?_
    rotate_left
    · intro w hSw; go_simp; with_reducible rfl
    simp only [Act.put, List.setIfInBounds_toArray, List.set_cons_zero, List.set_cons_succ]
    refine take_at 4 39 (v := ?_) rfl rfl (by kernel_rfl) (by kernel_rfl) (by kernel_rfl) (Or.inl ⟨by rfl, ?_⟩) hHeld ?_
    rotate_left
    · intro w hSw; go_simp; with_reducible rfl
    simp only [Act.put, List.setIfInBounds_toArray, List.set_cons_zero, List.set_cons_succ]
    refine take_at 5 40 (v := .pointer (some ⟨b, 1027 + i * 3, none⟩)) rfl rfl (by kernel_rfl) (by kernel_rfl) (by kernel_rfl) (Or.inl ⟨by rfl, ?_⟩) hHeld ?_
    · intro w hSw; have hi1 : (i : Int) < 49 := by omega
      first | (go_simp; done) | (go_simp; rfl)
    simp only [Act.put, List.setIfInBounds_toArray, List.set_cons_zero, List.set_cons_succ]
    refine wpAnyH_ready (rs := [6]) (by kernel_rfl) (by simp) ?_
    refine AllReadyH.cons rfl (fun K hK => ?_) AllReadyH.nil
    refine (if_pos (by rfl)).mpr ?_
    refine wp_store_mid 41 (.tmp 40) (.tmp 37) rfl b (1027 + i * 3) (ev ⟨0, N, 0⟩) rfl rfl (unhide TB) size3 (ev_one _) ?_
    have OF := hide ((unhide OE).drew (SHas.stay M b _ _))
    have OT := hide (Held.turn (St' := SHas W m b St (SE.withW i ⟨0, N, 0⟩) A) (w' := we.drew.setCells b (1027 + i * 3) (ev ⟨0, N, 0⟩).toList) (unhide OF) ((unhide OF).st.put M i hi ⟨0, N, 0⟩))
    have kg7 := (unhide OT).at g7 (.cells #[.int .i64 0, .int .i64 N, .int .i64 0] 41) (by simp)
    have r7 : (we.drew.setCells b (1027 + i * 3) (ev ⟨0, N, 0⟩).toList).rangeAt g7 0 (ev ⟨0, N, 0⟩).toList := fun j v hv => by rw [cell_of_block kg7, Nat.zero_add, ← Array.getElem?_toList]; exact hv
    clear hHeld kg7
    refine hK.out _ _ r7 (fun hNew => ?_)
    clear hK K hNew OF OE r7
    refine wpAnyH_done (by kernel_rfl) ?_ _
    refine NoPanic.normal ?_
    go_wp2_with fail
    go_ret
    rw [unhide ES]
    exact (unhide OT).done (SHas.stay M b _ _) _

theorem end_obj {W w : World} {m b : Nat} {St : Mm → World → (Nat → Prop) → Prop} {S : Sto} {A : Mm} {G : Nat → Prop} (M : MemL W m St) (h : SHas W m b St S A w G) (hS : S.ok) (z : Int) :
    Calls Tryz.prog 24 #[.pointer (some ⟨b, 0, none⟩), .int .i64 z] w (Done (SHas W m b St (S.endS z) A) w G (.int .i64 (S.findE z))) := by
  by_cases hf : S.findE z = 0
  · rw [hf]; exact end_some M h hS z hf
  · have e1 : S.endS z = S := if_neg hf
    rw [e1]; exact end_none M h z hf

end Go.Proofs.YtiafhcgaikapcaaGreat
